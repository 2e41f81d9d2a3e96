"""Ways of doing a loop wide: their parts, and which statements are done lane by lane."""

from vectorwidths.errors import InvalidName, InvalidPart
from vectorwidths.integers import is_between

PARTS = ("tail", "ahead", "guard", "bundles", "joining")
TAILS = ("mask", "rest", "whole")
JOININGS = ("row", "parts", "tree")
GREATEST_AHEAD = 3
GREATEST_NUMBER = 4
MOST_BUNDLES = 5


def is_word_of(value, words):
    """Whether any value is one of these strings."""
    return isinstance(value, str) and value in words


def is_bundle(value):
    """Whether any value is a tuple (first, last) of numbers of statements, first not above last."""
    if not isinstance(value, tuple) or len(value) != 2:
        return False
    return all([is_between(number, 0, GREATEST_NUMBER) for number in value]) and value[0] <= value[1]


def are_bundles(value):
    """Whether any value is a tuple of bundles, each of which begins behind the end of the one before."""
    if not isinstance(value, tuple) or len(value) > MOST_BUNDLES:
        return False
    if not all([is_bundle(bundle) for bundle in value]):
        return False
    return all([value[at][1] < value[at + 1][0] for at in range(len(value) - 1)])


def are_bundles_of(value, loop):
    """Whether any value is a tuple of bundles of statements of the loop."""
    return are_bundles(value) and all([last < len(loop) for first, last in value])


def is_allowed(part, value):
    """Whether the part of this name may have any value."""
    if part == "tail":
        return is_word_of(value, TAILS)
    if part == "ahead":
        return is_between(value, 0, GREATEST_AHEAD)
    if part == "guard":
        return isinstance(value, bool)
    if part == "bundles":
        return are_bundles(value)
    return is_word_of(value, JOININGS)


def units_of(bundles, many):
    """The units in which a block does so many statements: tuples (first, last, whether it is a bundle)."""
    units = []
    begun = 0
    for first, last in bundles:
        units.extend([(number, number, False) for number in range(begun, first)])
        units.append((first, last, True))
        begun = last + 1
    units.extend([(number, number, False) for number in range(begun, many)])
    return units


class Way:
    """How a loop is done wide."""

    def __init__(self, *, tail="mask", ahead=0, guard=True, bundles=(), joining="row"):
        self.kept = {"tail": tail, "ahead": ahead, "guard": guard, "bundles": bundles, "joining": joining}
        for part in PARTS:
            if not is_allowed(part, self.kept[part]):
                raise InvalidPart(part)

    @staticmethod
    def careful(loop):
        """The usual way, but with all statements of the loop in one bundle."""
        return Way(bundles=((0, len(loop) - 1),))

    @property
    def tail(self):
        return self.kept["tail"]

    @tail.setter
    def tail(self, value):
        self["tail"] = value

    @property
    def ahead(self):
        return self.kept["ahead"]

    @ahead.setter
    def ahead(self, value):
        self["ahead"] = value

    @property
    def guard(self):
        return self.kept["guard"]

    @guard.setter
    def guard(self, value):
        self["guard"] = value

    @property
    def bundles(self):
        return self.kept["bundles"]

    @bundles.setter
    def bundles(self, value):
        self["bundles"] = value

    @property
    def joining(self):
        return self.kept["joining"]

    @joining.setter
    def joining(self, value):
        self["joining"] = value

    def change(self, part, value):
        """Gives a part another value, and returns the way itself."""
        self[part] = value
        return self

    def twin(self):
        """A new way that is equal to this one."""
        return Way(tail=self.tail, ahead=self.ahead, guard=self.guard, bundles=self.bundles, joining=self.joining)

    def goes_with(self, loop):
        """Whether the numbers of the bundles are numbers of statements of the loop."""
        return are_bundles_of(self.bundles, loop)

    def __getitem__(self, at):
        if at not in self:
            raise InvalidName(at)
        return self.kept[at]

    def __setitem__(self, at, worth):
        if at not in self:
            raise InvalidName(at)
        if not is_allowed(at, worth):
            raise InvalidPart(at)
        self.kept[at] = worth

    def __iter__(self):
        raise TypeError("the parts of a way are read by name")

    def __contains__(self, x):
        return is_word_of(x, PARTS)

    def __eq__(self, other):
        return isinstance(other, Way) and self.kept == other.kept
