"""The plain loop: its events in order, what each load gets, and what each cell ends with."""

from vectorwidths.errors import InvalidNumber
from vectorwidths.integers import is_between

MOST_COUNT = 200
TARGET = -1


def check_count(count):
    """Refuses what is no count of iterations that a loop is done for."""
    if not is_between(count, 0, MOST_COUNT):
        raise InvalidNumber(count)


def load_events(loop, number, row, word):
    """The loads of one statement in a row of iterations, one after the other, source by source."""
    return [(word, number, at, source) for at in row for source in range(len(loop[number]))]


def end_event(loop, number, at):
    """The store of a statement at an iteration, or its add if it is a sum."""
    return ("add" if loop[number].is_sum else "store", number, at, 0)


def step_events(loop, first, last, at):
    """What the statements first to last do at one iteration, one after the other."""
    events = []
    for number in range(first, last + 1):
        events.extend(load_events(loop, number, [at], "load"))
        events.append(end_event(loop, number, at))
    return events


def plain_events(loop, count):
    """Yields all events of the plain loop."""
    check_count(count)
    for at in range(count):
        yield from step_events(loop, 0, len(loop) - 1, at)


def spot_of(loop, ref):
    """Where a ref lies: its line, the stride of that, and its offset."""
    return (ref[0], loop.line(ref[0]).stride, ref[1])


def spots_of(loop):
    """Where all refs lie, as a dict from (statement, source), or (statement, TARGET)."""
    spots = {}
    for number, statement in enumerate(loop.statements):
        for source, ref in enumerate(statement.sources):
            spots[number, source] = spot_of(loop, ref)
        if not statement.is_sum:
            spots[number, TARGET] = spot_of(loop, statement.target)
    return spots


def trace(loop, events):
    """What comes of events: the dict of the origins of the loads, and that of the last writers of the cells."""
    spots = spots_of(loop)
    origins = {}
    writers = {}
    for word, number, at, source in events:
        if word == "load":
            line, stride, offset = spots[number, source]
            origins[number, at, source] = writers.get((line, stride * at + offset))
        elif word == "store":
            line, stride, offset = spots[number, TARGET]
            writers[line, stride * at + offset] = (number, at)
    return origins, {cell: writers[cell] for cell in sorted(writers)}


def cells_of(loop, events):
    """The ascending list of all cells that events load or store to."""
    spots = spots_of(loop)
    cells = {}
    for word, number, at, source in events:
        if word != "add":
            line, stride, offset = spots[number, TARGET if word == "store" else source]
            cells[line, stride * at + offset] = True
    return sorted(cells)


def plain_origins(loop, count):
    """The dict from each load (j, i, k) to its origin, in the order of the events."""
    events = list(plain_events(loop, count))
    return trace(loop, events)[0]


def plain_writers(loop, count):
    """The dict from each cell that is stored to to its last writer, in ascending order."""
    events = list(plain_events(loop, count))
    return trace(loop, events)[1]


def plain_cells(loop, count):
    """The ascending list of all cells that are loaded or stored to."""
    events = list(plain_events(loop, count))
    return cells_of(loop, events)
