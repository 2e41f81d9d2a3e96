"""Overlaps: two lines that lie on one, shifted by a number, and for each shift the greatest safe width."""

from vectorwidths.errors import InvalidLine, InvalidName, InvalidNumber
from vectorwidths.integers import is_count, is_integer
from vectorwidths.lines import GREATEST_OFFSET, is_offset
from vectorwidths.loops import Loop
from vectorwidths.statements import Statement, refs_of
from vectorwidths.wide import check_way
from vectorwidths.widths import greatest_safe


def check_lines(loop, first, second):
    """Refuses what are not the names of two lines of the loop with one stride."""
    names = [line.name for line in loop.lines]
    if not isinstance(first, str) or first not in names:
        raise InvalidName(first)
    if not isinstance(second, str) or second not in names or second == first:
        raise InvalidName(second)
    if loop.line(first).stride != loop.line(second).stride:
        raise InvalidLine(second)


def can_shift(loop, second, shift):
    """Whether any value is an integer that can be added to all offsets on a line."""
    if not is_integer(shift):
        return False
    offsets = [offset for statement in loop.statements for line, offset in refs_of(statement) if line == second]
    return all([is_offset(offset + shift) for offset in offsets])


def laid_over(ref, first, second, shift):
    """The ref on the first line for one on the second line; any other ref as it is."""
    line, offset = ref
    return (first, offset + shift) if line == second else ref


def overlapped(loop, first, second, shift):
    """The loop without the second line, whose refs are on the first line, with shift added to the offsets."""
    check_lines(loop, first, second)
    if not can_shift(loop, second, shift):
        raise InvalidNumber(shift)
    statements = []
    for statement in loop.statements:
        target = None if statement.is_sum else laid_over(statement.target, first, second, shift)
        sources = [laid_over(source, first, second, shift) for source in statement.sources]
        statements.append(Statement(statement.name, target, *sources))
    lines = [line for line in loop.lines if line.name != second]
    return Loop(lines, *statements)


def is_form(value):
    """Whether any value is a dict from integers to counts or None."""
    if not isinstance(value, dict) or not all([is_integer(shift) for shift in value]):
        return False
    return all([width is None or is_count(width) for width in value.values()])


def is_up_to(one, other):
    """Whether one width is at most another one, where None is greater than all integers."""
    return other is None or (one is not None and one <= other)


class Form:
    """What some shifts have for their greatest safe width: a positive integer, 0, or None if all widths are safe."""

    def __init__(self, values):
        if not is_form(values):
            raise InvalidNumber(values)
        self.kept_widths = {shift: values[shift] for shift in sorted(values)}

    def shifts(self):
        """The ascending list of all shifts."""
        return list(self.kept_widths)

    def is_under(self, other):
        """Whether the other form has all shifts of this one, with widths that are at least as great."""
        return all([shift in other and is_up_to(self[shift], other[shift]) for shift in self.kept_widths])

    def test(self, width):
        """The ascending tuple of the shifts at which a width is safe."""
        if not is_count(width) or width == 0:
            raise InvalidNumber(width)
        return tuple([shift for shift in self.kept_widths if is_up_to(width, self[shift])])

    def __len__(self):
        return len(self.kept_widths)

    def __getitem__(self, at):
        if at not in self:
            raise InvalidNumber(at)
        return self.kept_widths[at]

    def __iter__(self):
        raise TypeError("the widths of a form are read by shift")

    def __contains__(self, x):
        return is_integer(x) and x in self.kept_widths

    def __and__(self, other):
        both = [shift for shift in self.kept_widths if shift in other]
        return Form({
            shift: self[shift] if is_up_to(self[shift], other[shift]) else other[shift] for shift in both})

    def __eq__(self, other):
        return isinstance(other, Form) and self.kept_widths == other.kept_widths


def width_form(loop, way, first, second):
    """The form of the greatest safe widths for all shifts from -9 to 9 that keep the offsets within their bounds."""
    check_way(loop, way)
    shifts = [shift for shift in range(-GREATEST_OFFSET, GREATEST_OFFSET + 1) if can_shift(loop, second, shift)]
    return Form({shift: greatest_safe(overlapped(loop, first, second, shift), way) for shift in shifts})
