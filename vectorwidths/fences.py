"""Fences: how early a free machine may do the loads of a statement, and what must hold them back."""

from vectorwidths.choices import all_choices, is_part, least_of
from vectorwidths.errors import InvalidNumber
from vectorwidths.integers import is_between
from vectorwidths.plain import end_event, load_events, plain_origins, plain_writers, trace
from vectorwidths.ways import Way
from vectorwidths.wide import blocks, lanes, wide_writers
from vectorwidths.widths import bound_of, last_count


def free_events(loop, number, place, width, count):
    """The loads of one statement at a place, and the stores of all."""
    events = []
    for block in range(blocks(Way(), width, count)):
        row = lanes(Way(), width, count, block)
        for turn in range(len(loop)):
            if turn == place:
                events.extend(load_events(loop, number, row, "load"))
            events.extend([end_event(loop, turn, at) for at in row])
    return events


def free_origins(loop, number, place, width, count):
    """The dict from the loads (number, i, k) of a statement to their origins, if they are done at this place."""
    if not is_between(number, 0, len(loop) - 1):
        raise InvalidNumber(number)
    if not is_between(place, 0, number):
        raise InvalidNumber(place)
    return trace(loop, free_events(loop, number, place, width, count))[0]


def bad_places(loop):
    """The ascending list of the tuples (q, r) of a statement and a place at which a load of it has a wrong origin."""
    # As for usual wide loops: what is wrong somewhere is wrong at the bound, and the last count shows all cases.
    width = bound_of(loop)
    count = last_count(loop, Way(), width)
    plain = plain_origins(loop, count)
    found = []
    for number in range(len(loop)):
        for place in range(number + 1):
            free = free_origins(loop, number, place, width, count)
            if any([free[load] != plain[load] for load in free]):
                found.append((number, place))
    return found


def have_right_writers(loop):
    """Whether the stores alone leave the last writers of the plain loop, at all widths and counts."""
    # If two stores are ever turned about at an end, they are so at the end of the first block.
    width = bound_of(loop)
    return wide_writers(loop, Way(), width, width) == plain_writers(loop, width)


def is_fence_set(loop, value):
    """Whether any value is an ascending tuple of fences of the loop."""
    if not isinstance(value, tuple) or not all([is_between(fence, 1, len(loop) - 1) for fence in value]):
        return False
    return all([value[at] < value[at + 1] for at in range(len(value) - 1)])


def hold_back(fences, bad):
    """Whether fences hold back the loads from all bad places (q, r)."""
    return all([any([place < fence <= number for fence in fences]) for number, place in bad])


def serves(loop, fences):
    """Whether a set of fences serves."""
    if not is_fence_set(loop, fences):
        raise InvalidNumber(fences)
    return have_right_writers(loop) and hold_back(fences, bad_places(loop))


def least_fences(loop):
    """The list of the least sets of fences, those with fewer fences first, then ascending."""
    if not have_right_writers(loop):
        return []
    bad = bad_places(loop)
    fences = list(range(1, len(loop)))
    return least_of([chosen for chosen in all_choices(fences) if hold_back(chosen, bad)], is_part)
