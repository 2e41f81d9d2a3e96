"""Distances: how many iterations lie between two refs on one cell, and how many blocks."""

from vectorwidths.plain import TARGET, spots_of
from vectorwidths.wide import check_width


def meets(loop):
    """The sorted list of the tuples (p, a, q, b, d) of all pairs of refs that meet, with a target among them."""
    spots = spots_of(loop)
    refs = sorted(spots)
    found = []
    for at, first in enumerate(refs):
        line, stride, offset = spots[first]
        for second in refs[at + 1:]:
            other_line, other_stride, other_offset = spots[second]
            distance = loop.line(line).distance(offset, other_offset)
            if line == other_line and distance is not None and TARGET in (first[1], second[1]):
                found.append((*first, *second, distance))
    return found


def reach(loop):
    """The greatest absolute value of the distances at which a target meets another ref, 0 if there are none."""
    return max([abs(distance) for p, a, q, b, distance in meets(loop)], default=0)


def crossings(loop, width):
    """For each lane the tuple of the tuples (distance, by how many blocks that iteration is later)."""
    check_width(width)
    found = [meeting[4] for meeting in meets(loop) if meeting[4] != 0]
    distances = sorted({sign * distance for distance in found for sign in (1, -1)})
    return [tuple([(distance, (lane + distance) // width) for distance in distances]) for lane in range(width)]
