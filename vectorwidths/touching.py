"""Touching: cells that the wide loop loads or stores to, and the plain loop does not."""

from vectorwidths.plain import TARGET, plain_cells, spots_of
from vectorwidths.ways import units_of
from vectorwidths.wide import check_way, wide_cells


def touches(loop, way, width, count):
    """The ascending list of the touches at this width and count."""
    cells = wide_cells(loop, way, width, count)
    plain = {cell: True for cell in plain_cells(loop, count)}
    return [cell for cell in cells if cell not in plain]


def track_of(spot):
    """The track of a ref, which all refs have that can meet it, and its place there at iteration 0.

    A track is the cells of a line that lie whole strides apart; places are counted in strides."""
    line, stride, offset = spot
    return (line, offset % stride), offset // stride


def tracks_of(spots):
    """The ascending places of refs at iteration 0, as a dict from their tracks."""
    tracks = {}
    for spot in spots:
        track, place = track_of(spot)
        tracks[track] = [*tracks.get(track, []), place]
    return {track: sorted(set(tracks[track])) for track in tracks}


def early_spots(loop, way):
    """Where the sources of wide statements lie, which are those that are loaded ahead."""
    alone = [first for first, last, bundled in units_of(way.bundles, len(loop)) if not bundled]
    spots = spots_of(loop)
    return [spots[number, source] for number, source in spots if source != TARGET and number in alone]


def touching_widths(places, early, ahead):
    """For each place of a track the least width at which early loads touch the cell behind what its ref has, if any.

    At a width and count of w the ref at a place p has the cells p to p + w - 1, so that p + w is the first one that is
    left out, unless the next ref has it. An early load from q has the cells from q + w on, ahead * w of them: it
    touches p + w if p - q is less than ahead * w, and q is not above p."""
    found = []
    for at, place in enumerate(places):
        nearest = max([load for load in early if load <= place], default=None)
        if nearest is not None:
            width = (place - nearest) // ahead + 1
            if place == places[-1] or width < places[at + 1] - place:
                found.append(width)
    return found


def least_touching_width(loop, way):
    """The least width at which loads ahead touch a cell behind the rest, None if there is none."""
    tracks = tracks_of(list(spots_of(loop).values()))
    early = tracks_of(early_spots(loop, way))
    found = [width for track in early for width in touching_widths(tracks[track], early[track], way.ahead)]
    return min(found, default=None)


def telling_places(loop, way):
    """The few tuples (width, count), ascending, of which one is that of the first touch if there is any.

    Under `rest` a width that touches at some count does so at the least one with a block, which is the width: behind
    it the plain loop leaves out the most cells, and the loads ahead go farthest beyond it. Under `whole` the count 1
    leaves out the most. At the width 1 loads ahead alone are done beyond it; at the width 2 the iteration 1 is done,
    in which the foremost ref has a cell that no ref has at iteration 0."""
    if way.tail == "whole":
        return [(1, 1), (2, 1)]
    # Under `mask`, and with a guard, nothing is done beyond the count.
    if way.tail == "mask" or way.ahead == 0 or way.guard:
        return []
    width = least_touching_width(loop, way)
    return [] if width is None else [(width, width)]


def first_touch(loop, way):
    """The tuple (width, count, cell) that comes first, None if there is none."""
    check_way(loop, way)
    for width, count in telling_places(loop, way):
        found = touches(loop, way, width, count)
        if len(found) > 0:
            return (width, count, found[0])
    return None


def is_tight(loop, way):
    """Whether there are no touches at any width and count."""
    return first_touch(loop, way) is None
