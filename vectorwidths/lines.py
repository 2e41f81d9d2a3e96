"""Lines, refs and cells: how a ref goes along a row of cells from iteration to iteration."""

from vectorwidths.errors import InvalidName, InvalidNumber
from vectorwidths.integers import is_between, is_count, is_integer

LONGEST_NAME = 8
GREATEST_OFFSET = 9
GREATEST_STRIDE = 6


def is_name(value):
    """Whether any value is a name: 1 to 8 letters from a to z."""
    if not isinstance(value, str) or not 1 <= len(value) <= LONGEST_NAME:
        return False
    return all(["a" <= letter <= "z" for letter in value])


def is_offset(value):
    """Whether any value is an offset that a ref may have."""
    return is_between(value, -GREATEST_OFFSET, GREATEST_OFFSET)


def is_ref(value):
    """Whether any value is a ref: a tuple (line, offset)."""
    return isinstance(value, tuple) and len(value) == 2 and is_name(value[0]) and is_offset(value[1])


def is_cell(value):
    """Whether any value is a cell: a tuple (line, place)."""
    return isinstance(value, tuple) and len(value) == 2 and is_name(value[0]) and is_integer(value[1])


class Line:
    """A row of cells with a name; its refs go on by the stride in each iteration."""

    def __init__(self, name, stride=1):
        if not is_name(name):
            raise InvalidName(name)
        if not is_between(stride, 1, GREATEST_STRIDE):
            raise InvalidNumber(stride)
        self.kept_name = name
        self.kept_stride = stride

    @property
    def name(self):
        return self.kept_name

    @property
    def stride(self):
        return self.kept_stride

    def cell(self, offset, at):
        """The cell (line, place) of the ref with this offset at the iteration at."""
        if not is_offset(offset):
            raise InvalidNumber(offset)
        if not is_count(at):
            raise InvalidNumber(at)
        return (self.kept_name, self.kept_stride * at + offset)

    def distance(self, first, second):
        """The distance at which the refs with these offsets meet, None if they never do."""
        for offset in (first, second):
            if not is_offset(offset):
                raise InvalidNumber(offset)
        if (first - second) % self.kept_stride != 0:
            return None
        return (first - second) // self.kept_stride

    def __eq__(self, other):
        return (isinstance(other, Line) and self.kept_name == other.kept_name
                and self.kept_stride == other.kept_stride)

    def __mul__(self, other):
        if not is_between(other, 1, GREATEST_STRIDE // self.kept_stride):
            raise InvalidNumber(other)
        return Line(self.kept_name, self.kept_stride * other)
