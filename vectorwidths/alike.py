"""Loops alike: orders of the statements in which each load gets the same, and each cell ends with the same."""

from vectorwidths.choices import all_orders
from vectorwidths.distances import reach
from vectorwidths.errors import InvalidLoop
from vectorwidths.plain import plain_events, trace
from vectorwidths.widths import is_safe


def are_of_one_kind(one, other):
    """Whether two loops have the same lines and the same statements, in any order."""
    if len(one.lines) != len(other.lines) or len(one) != len(other):
        return False
    return (all([line in other.lines for line in one.lines])
            and all([statement in other.statements for statement in one.statements]))


def named(loop, count):
    """The origins of all loads and the last writers of all cells of the plain loop, told by the names of statements."""
    events = list(plain_events(loop, count))
    origins, writers = trace(loop, events)
    names = [statement.name for statement in loop.statements]
    loads = {(names[j], i, k): (names[origin[0]], origin[1]) if origin is not None else None
             for (j, i, k), origin in origins.items()}
    return loads, {cell: (names[j], i) for cell, (j, i) in writers.items()}


def telling_count(loop):
    """A count at which loops with the same statements differ if they do so at any count.

    The last iteration then has all those ahead of it at which a load of it can meet a store, and loads keep their
    origins at greater counts. The last writers of a cell differ at any count if they differ at the count 1: only
    statements with the same target can be turned about."""
    return reach(loop) + 1


def are_alike(one, other):
    """Whether two loops are alike."""
    if not are_of_one_kind(one, other):
        return False
    count = telling_count(one)
    return named(one, count) == named(other, count)


def first_unlike(one, other):
    """The least count at which the plain loops of two loops differ, None if they are alike."""
    if not are_of_one_kind(one, other):
        raise InvalidLoop(other)
    for count in range(1, telling_count(one) + 1):
        if named(one, count) != named(other, count):
            return count
    return None


def alike_orders(loop):
    """The ascending list of the tuples of names of all orders in which the loop is alike to itself."""
    names = sorted([statement.name for statement in loop.statements])
    count = telling_count(loop)
    told = named(loop, count)
    return [order for order in all_orders(names) if named(loop.in_order(*order), count) == told]


def safe_order(loop, way):
    """The first order of those alike in which the loop is safe with the way, None if there is none."""
    for order in alike_orders(loop):
        if is_safe(loop.in_order(*order), way):
            return order
    return None
