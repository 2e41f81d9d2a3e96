"""The wide loop: its blocks and lanes, its events in order, and what comes of them."""

from vectorwidths.errors import InvalidBundles, InvalidNumber
from vectorwidths.integers import is_between, is_count
from vectorwidths.plain import cells_of, check_count, end_event, load_events, step_events, trace
from vectorwidths.ways import units_of

MOST_WIDTH = 200


def check_way(loop, way):
    """Refuses a way that does not go with the loop."""
    if not way.goes_with(loop):
        raise InvalidBundles(way)


def check_width(width):
    """Refuses what is no width of a wide loop."""
    if not is_between(width, 1, MOST_WIDTH):
        raise InvalidNumber(width)


def check_numbers(width, count):
    """Refuses what is no width, or no count, of a wide loop."""
    check_width(width)
    check_count(count)


def check_wide(loop, way, width, count):
    """Refuses a way that does not go with the loop, and wrong numbers."""
    check_way(loop, way)
    check_numbers(width, count)


def blocks(way, width, count):
    """The number of blocks."""
    check_numbers(width, count)
    if way.tail == "rest":
        return count // width
    return (count + width - 1) // width


def lanes(way, width, count, block):
    """The tuple of the iterations of a block, whether it exists or not."""
    check_numbers(width, count)
    if not is_count(block):
        raise InvalidNumber(block)
    row = list(range(block * width, (block + 1) * width))
    if way.tail == "mask":
        return tuple([at for at in row if at < count])
    return tuple(row)


def block_loads(loop, way, width, count, block):
    """The loads of all wide statements for one block that are done ahead of it."""
    exists = block < blocks(way, width, count)
    if way.guard and not exists:
        return []
    row = lanes(way, width, count, block)
    events = []
    for first, last, bundled in units_of(way.bundles, len(loop)):
        if not bundled:
            events.extend(load_events(loop, first, row, "load" if exists else "touch"))
    return events


def ahead_events(loop, way, width, count, block):
    """What a block loads for later blocks; the first one also loads for itself and for those between."""
    if way.ahead == 0:
        return []
    nearest = 0 if block == 0 else block + way.ahead
    events = []
    for later in range(nearest, block + way.ahead + 1):
        events.extend(block_loads(loop, way, width, count, later))
    return events


def wide_statement_events(loop, way, number, row):
    """What a wide statement does in the lanes of a block: first all loads, then all stores or adds."""
    loads = load_events(loop, number, row, "load") if way.ahead == 0 else []
    return [*loads, *[end_event(loop, number, at) for at in row]]


def block_events(loop, way, row):
    """What the statements do in the lanes of a block, behind the loads ahead."""
    events = []
    for first, last, bundled in units_of(way.bundles, len(loop)):
        if bundled:
            for at in row:
                events.extend(step_events(loop, first, last, at))
        else:
            events.extend(wide_statement_events(loop, way, first, row))
    return events


def wide_events(loop, way, width, count):
    """Yields all events of the wide loop."""
    check_wide(loop, way, width, count)
    # A way can be changed between two events, and its events are those of what it was at the beginning.
    own = way.twin()
    many = blocks(own, width, count)
    for block in range(many):
        yield from ahead_events(loop, own, width, count, block)
        row = lanes(own, width, count, block)
        yield from block_events(loop, own, row)
    if own.tail == "rest":
        for at in range(many * width, count):
            yield from step_events(loop, 0, len(loop) - 1, at)


def wide_origins(loop, way, width, count):
    """The dict from each load (j, i, k) of the wide loop to its origin, in the order of the events."""
    events = list(wide_events(loop, way, width, count))
    return trace(loop, events)[0]


def wide_writers(loop, way, width, count):
    """The dict from each cell that the wide loop stores to to its last writer, in ascending order."""
    events = list(wide_events(loop, way, width, count))
    return trace(loop, events)[1]


def wide_cells(loop, way, width, count):
    """The ascending list of all cells that the wide loop loads, touches or stores to."""
    events = list(wide_events(loop, way, width, count))
    return cells_of(loop, events)
