"""The plain loop with its events in another order: the least count at which that makes a difference."""

from vectorwidths.distances import reach
from vectorwidths.plain import plain_events, trace


def first_differing(loop, events_of):
    """The least count at which the events that a function of a count gives differ from the plain ones, None if none.

    Both do the same events, and which of two is done first hangs on their statements and on how many iterations lie
    between them alone. Let a load get something else, or a cell end with something else, and take the iterations of
    that load and of the stores to its cell. They are at most the reach apart. If they are moved so that the first one
    of those below the count is the iteration 0, and the count is moved to end with the last one, the same of them are
    there as before, so that the same is found at a count that is not above the reach and one."""
    for count in range(1, reach(loop) + 2):
        plain = list(plain_events(loop, count))
        if trace(loop, events_of(count)) != trace(loop, plain):
            return count
    return None
