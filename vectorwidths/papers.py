"""Papers: what shows that a loop with a way is wrong, or that it is right, and the checker of papers."""

from vectorwidths.distances import reach
from vectorwidths.errors import TooMany
from vectorwidths.flows import differences, is_right_at
from vectorwidths.integers import is_between, is_integer
from vectorwidths.plain import MOST_COUNT, plain_events, trace
from vectorwidths.wide import MOST_WIDTH
from vectorwidths.widths import bound_of, first_wrong, last_count

GREATEST_REACH = 3


def is_exactly(value, wanted):
    """Whether any value is what is wanted, also inside tuples: no list for a tuple, no True for 1."""
    if isinstance(wanted, tuple):
        if not isinstance(value, tuple) or len(value) != len(wanted):
            return False
        return all([is_exactly(value[at], part) for at, part in enumerate(wanted)])
    if isinstance(wanted, str):
        return isinstance(value, str) and value == wanted
    return value is None if wanted is None else is_integer(value) and value == wanted


def places_of(loop, way):
    """The list of all widths and counts of a right paper, ascending."""
    lasts = [(width, last_count(loop, way, width)) for width in range(1, bound_of(loop) + 1)]
    return [(width, count) for width, last in lasts for count in range(last + 1)]


def case_of(loop, width, count):
    """What a right paper tells for a width and a count: what there is in the plain loop."""
    events = list(plain_events(loop, count))
    origins, writers = trace(loop, events)
    return (width, count, tuple(origins.items()), tuple(writers.items()))


def paper(loop, way):
    """A paper for the loop and the way."""
    found = first_wrong(loop, way)
    if found is not None:
        return ("wrong", *found)
    if reach(loop) > GREATEST_REACH:
        raise TooMany(GREATEST_REACH)
    return ("right", tuple([case_of(loop, width, count) for width, count in places_of(loop, way)]))


def shows_wrong(loop, way, told):
    """Whether what any value tells behind `wrong` is a width, a count, and a difference there."""
    if len(told) != 3 or not is_between(told[0], 1, MOST_WIDTH) or not is_between(told[1], 0, MOST_COUNT):
        return False
    return any([is_exactly(told[2], one) for one in differences(loop, way, told[0], told[1])])


def shows_right(loop, way, cases):
    """Whether any value is the tuple of all cases, each as it is in both loops."""
    places = places_of(loop, way)
    if not isinstance(cases, tuple) or len(cases) != len(places):
        return False
    for case, (width, count) in zip(cases, places):
        # What is told is held against the plain loop, and the wide loop, without differences, has the same.
        if not is_exactly(case, case_of(loop, width, count)) or not is_right_at(loop, way, width, count):
            return False
    return True


def accepts(loop, way, value):
    """Whether any value is a paper for the loop and the way."""
    if not way.goes_with(loop) or not isinstance(value, tuple) or len(value) < 2:
        return False
    if is_exactly(value[0], "wrong"):
        return shows_wrong(loop, way, value[1:])
    return is_exactly(value[0], "right") and len(value) == 2 and shows_right(loop, way, value[1])
