"""Differences: which loads and cells of the wide loop are not as in the plain loop."""

from vectorwidths.errors import InvalidNumber
from vectorwidths.integers import is_integer
from vectorwidths.plain import plain_events, plain_origins, trace
from vectorwidths.wide import wide_events, wide_origins


def is_load_of(origins, value):
    """Whether any value is a load (j, i, k) among the keys of origins."""
    if not isinstance(value, tuple) or len(value) != 3:
        return False
    return all([is_integer(number) for number in value]) and value in origins


def differences(loop, way, width, count):
    """The list of the loads with another origin, then of the cells with another last writer."""
    events = list(wide_events(loop, way, width, count))
    wide_loads, wide_stores = trace(loop, events)
    events = list(plain_events(loop, count))
    plain_loads, plain_stores = trace(loop, events)
    loads = [load for load in sorted(plain_loads) if wide_loads[load] != plain_loads[load]]
    stored = sorted(set(plain_stores) | set(wide_stores))
    cells = [cell for cell in stored if wide_stores.get(cell) != plain_stores.get(cell)]
    return [*[("load", *load) for load in loads], *[("cell", *cell) for cell in cells]]


def is_right_at(loop, way, width, count):
    """Whether there are no differences at this width and count."""
    return len(differences(loop, way, width, count)) == 0


def origin_pair(loop, way, width, count, load):
    """The tuple of the origins that a load of the plain loop has in the plain loop and in the wide one."""
    wide = wide_origins(loop, way, width, count)
    plain = plain_origins(loop, count)
    if not is_load_of(plain, load):
        raise InvalidNumber(load)
    return (plain[load], wide[load])
