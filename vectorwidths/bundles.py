"""Bundles: all tuples of bundles, and the least ones with which a loop is safe."""

from vectorwidths.choices import least_of
from vectorwidths.errors import InvalidBundles, InvalidNumber
from vectorwidths.integers import is_between
from vectorwidths.loops import MOST_STATEMENTS
from vectorwidths.ways import are_bundles
from vectorwidths.widths import is_safe


def all_bundles(many):
    """Yields all tuples of bundles of so many statements, in ascending order."""
    if not is_between(many, 1, MOST_STATEMENTS):
        raise InvalidNumber(many)
    found = [()]
    for first in range(many):
        ahead = [bundles for bundles in found if bundles == () or bundles[-1][1] < first]
        found.extend([(*bundles, (first, last)) for last in range(first, many) for bundles in ahead])
    yield from sorted(found)


def lies_within(one, other):
    """Whether each bundle of one tuple lies in a bundle of another one."""
    return all([any([a <= first and last <= b for a, b in other]) for first, last in one])


def is_within(one, other):
    """Whether one tuple of bundles is within another one."""
    for value in (one, other):
        if not are_bundles(value):
            raise InvalidBundles(value)
    return lies_within(one, other)


def least_bundles(loop, way):
    """The ascending list of the least tuples of bundles with which the loop is safe."""
    safe = [bundles for bundles in all_bundles(len(loop)) if is_safe(loop, way.twin().change("bundles", bundles))]
    return least_of(safe, lies_within)
