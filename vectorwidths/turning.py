"""Loops turned about, from the last iteration to the first one, and loops unrolled."""

from vectorwidths.errors import InvalidNumber
from vectorwidths.integers import is_between
from vectorwidths.lines import Line
from vectorwidths.loops import Loop
from vectorwidths.plain import check_count, step_events, trace
from vectorwidths.reordered import first_differing
from vectorwidths.statements import Statement

# The letter behind the names of each iteration that is done in one; there are as many as statements in a loop.
LETTERS = "abcde"


def turned_events(loop, count):
    """The events if the iterations are done from the last one to the first one."""
    check_count(count)
    return [event for at in reversed(range(count)) for event in step_events(loop, 0, len(loop) - 1, at)]


def turned_origins(loop, count):
    """The dict from each load (j, i, k) to its origin if the iterations are done from the last one to the first one."""
    return trace(loop, turned_events(loop, count))[0]


def first_unturned(loop):
    """The least count at which the loop turned about differs from the plain loop, None if there is none."""
    return first_differing(loop, lambda count: turned_events(loop, count))


def ref_later(loop, ref, turn):
    """The ref that has so many iterations earlier the cell of this one."""
    line, offset = ref
    return (line, offset + turn * loop.line(line).stride)


def statement_later(loop, statement, turn):
    """The statement that is one of so many iterations later, with a letter behind its name."""
    target = None if statement.is_sum else ref_later(loop, statement.target, turn)
    sources = [ref_later(loop, source, turn) for source in statement.sources]
    return Statement(statement.name + LETTERS[turn], target, *sources)


def unrolled(loop, times):
    """The loop that does so many iterations in each one."""
    if not is_between(times, 1, len(LETTERS)):
        raise InvalidNumber(times)
    lines = [Line(line.name, line.stride * times) for line in loop.lines]
    statements = [statement_later(loop, statement, turn) for turn in range(times) for statement in loop.statements]
    return Loop(lines, *statements)
