"""Loops fused into one and parted into two, and whether that makes a difference."""

from vectorwidths.errors import InvalidLine, InvalidNumber
from vectorwidths.integers import is_between
from vectorwidths.loops import Loop
from vectorwidths.plain import step_events
from vectorwidths.reordered import first_differing


def fused(one, other):
    """The loop with the lines and statements of one loop, and behind them those of another one."""
    strides = {line.name: line.stride for line in one.lines}
    if any([strides.get(line.name, line.stride) != line.stride for line in other.lines]):
        raise InvalidLine(other)
    lines = (*one.lines, *[line for line in other.lines if line.name not in strides])
    statements = [*one.statements, *other.statements]
    return Loop(lines, *statements)


def parted(loop, at):
    """The tuple of the loop with the statements ahead of a number, and of that with the others."""
    if not is_between(at, 1, len(loop) - 1):
        raise InvalidNumber(at)
    head = loop.statements[:at]
    rest = loop.statements[at:]
    return Loop(loop.lines, *head), Loop(loop.lines, *rest)


def unfused_events(loop, at, count):
    """The events if all iterations are done for the statements ahead of a number, and then for the others."""
    parts = ((0, at - 1), (at, len(loop) - 1))
    return [event for first, last in parts for turn in range(count) for event in step_events(loop, first, last, turn)]


def first_unfused(one, other):
    """The least count at which the fused loop differs from one loop with the other one behind it, None if none."""
    loop = fused(one, other)
    many = len(one)
    return first_differing(loop, lambda count: unfused_events(loop, many, count))


def can_part(loop):
    """The ascending list of the numbers at which the loop can be parted without a difference."""
    found = []
    for at in range(1, len(loop)):
        one, other = parted(loop, at)
        if first_unfused(one, other) is None:
            found.append(at)
    return found
