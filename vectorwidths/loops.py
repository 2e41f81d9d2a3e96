"""Loops: statements that are done in order, in one iteration after the other, on lines."""

from vectorwidths.errors import InvalidLine, InvalidLoop, InvalidName, InvalidNumber, InvalidRef, InvalidStatement
from vectorwidths.integers import is_between
from vectorwidths.lines import Line, is_ref
from vectorwidths.statements import Statement, refs_of

MOST_LINES = 3
MOST_STATEMENTS = 5


def are_unlike(names):
    """Whether no name occurs twice."""
    return len(set(names)) == len(names)


def are_lines(value):
    """Whether any value is a list or tuple of lines that a loop may have."""
    if not isinstance(value, (list, tuple)) or not 1 <= len(value) <= MOST_LINES:
        return False
    return all([isinstance(one, Line) for one in value]) and are_unlike([one.name for one in value])


def are_statements(value):
    """Whether a tuple is one of statements that a loop may have."""
    if not 1 <= len(value) <= MOST_STATEMENTS:
        return False
    return all([isinstance(one, Statement) for one in value]) and are_unlike([one.name for one in value])


class Loop:
    """One to three lines, and one to five statements whose refs are on them."""

    def __init__(self, lines, *statements):
        if not are_lines(lines):
            raise InvalidLine(lines)
        if not are_statements(statements):
            raise InvalidStatement(statements)
        known = [one.name for one in lines]
        for statement in statements:
            if not all([name in known for name, offset in refs_of(statement)]):
                raise InvalidLoop(statement.name)
        self.kept_lines = tuple(lines)
        self.kept_statements = statements

    @staticmethod
    def copying():
        """The loop that copies each cell of a line to the next one."""
        return Loop([Line("a")], Statement("f", ("a", 1), ("a", 0)))

    @staticmethod
    def summing():
        """The loop that adds all cells of a line to a sum."""
        return Loop([Line("a")], Statement("s", None, ("a", 0)))

    @property
    def lines(self):
        return self.kept_lines

    @property
    def statements(self):
        return self.kept_statements

    def line(self, name):
        """The line with this name."""
        if isinstance(name, str):
            for one in self.kept_lines:
                if one.name == name:
                    return one
        raise InvalidName(name)

    def cell(self, ref, at):
        """The cell of a ref on one of the lines at the iteration at."""
        if not is_ref(ref) or ref[0] not in [one.name for one in self.kept_lines]:
            raise InvalidRef(ref)
        return self.line(ref[0]).cell(ref[1], at)

    def in_order(self, *names):
        """The loop with its statements in the order of these names."""
        known = [one.name for one in self.kept_statements]
        if not all([isinstance(name, str) for name in names]) or sorted(names) != sorted(known):
            raise InvalidName(names)
        statements = [self[name] for name in names]
        return Loop(self.kept_lines, *statements)

    def __len__(self):
        return len(self.kept_statements)

    def __getitem__(self, at):
        if isinstance(at, str):
            for one in self.kept_statements:
                if one.name == at:
                    return one
            raise InvalidName(at)
        if not is_between(at, 0, len(self.kept_statements) - 1):
            raise InvalidNumber(at)
        return self.kept_statements[at]

    def __iter__(self):
        raise TypeError("the statements of a loop are read by number or name")

    def __contains__(self, x):
        return isinstance(x, str) and x in [one.name for one in self.kept_statements]

    def __add__(self, other):
        return Loop(self.kept_lines, *self.kept_statements, other)

    def __eq__(self, other):
        return (isinstance(other, Loop) and self.kept_lines == other.kept_lines
                and self.kept_statements == other.kept_statements)
