"""Touching: cells that the wide loop loads or stores to, and the plain loop does not."""

from vectorwidths.distances import span
from vectorwidths.plain import plain_cells
from vectorwidths.wide import check_way, wide_cells


def touches(loop, way, width, count):
    """The ascending list of the touches at this width and count."""
    cells = wide_cells(loop, way, width, count)
    plain = {cell: True for cell in plain_cells(loop, count)}
    return [cell for cell in cells if cell not in plain]


def is_kept_in(way):
    """Whether the way does no iteration from the count on, at any width and count."""
    if way.tail == "whole":
        return False
    return way.tail == "mask" or way.ahead == 0 or way.guard


def first_touch(loop, way):
    """The tuple (width, count, cell) that comes first, None if there is none."""
    check_way(loop, way)
    if is_kept_in(way):
        return None
    # These bounds are the document's: if there is a touch at all, there is one within them.
    widest = span(loop) + 2
    for width in range(1, widest + 1):
        for count in range(0, span(loop) + 2 * width + 1):
            found = touches(loop, way, width, count)
            if len(found) > 0:
                return (width, count, found[0])
    return None


def is_tight(loop, way):
    """Whether there are no touches at any width and count."""
    return first_touch(loop, way) is None
