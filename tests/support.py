"""What the tests share: odd objects, and checks of errors with their fields."""

import unittest

from vectorwidths.lines import Line
from vectorwidths.loops import Loop
from vectorwidths.statements import Statement
from vectorwidths.ways import Way

GREAT = 10 ** 199


class EqualToAll:
    """An object that says that it is equal to any other one."""

    def __eq__(self, other):
        return True

    def __hash__(self):
        return hash("a")


def odd_objects():
    """Objects of many kinds, none of which is an integer, a name, a ref, a line, a statement or a loop's text."""
    nested = ()
    for _ in range(15):
        nested = (nested,)
    return [
        None, True, False, "", "A", "ninechars", "a b", "x" * 20000, "a\n", "+", "a@0", [], ["a"], [["a", 0]], [0],
        {}, {"a": 0}, {0: "a"}, (), ("a",), ("a", 0, 0), ("a", True), ("a", False), (True, 0), ("a", "0"), ("a", None),
        (("a", 0),), (0, "a"), (None, None), ("a", 10), ("a", -10), ("a", GREAT), ("", 0), (("a",), 0), (["a"], [0]),
        nested, [nested], {1: [2]}, {"x": ()}, b"a", b"", set(), {1}, object(), object, ValueError("a"), len,
        ("load", 0, 0), ("line", "a", 1), slice(0, 1), Ellipsis, range(3), iter([1]), lambda: 1,
        EqualToAll(), (EqualToAll(),), ("a", EqualToAll()), (EqualToAll(), 0)]


def own_objects():
    """Objects of classes of the program."""
    statements = [Statement("f"), Statement("f", ("a", 1), ("a", 0))]
    return [Line("a"), Line("b", 6), *statements, Loop.copying(), Loop.summing(), Way(), Way(tail="rest", ahead=3)]


def no_integers():
    """What never stands for an integer."""
    return odd_objects() + own_objects()


class Case(unittest.TestCase):
    """Checks that an error of exactly one class is raised, with the very argument as its field."""

    def refuses(self, kind, field, call, *arguments, **more):
        """The call raises this error, and its field is this very object."""
        with self.assertRaises(kind) as caught:
            call(*arguments, **more)
        self.assertIs(caught.exception.__class__, kind)
        self.assertIs(caught.exception.value, field)

    def refuses_equal(self, kind, field, call, *arguments, **more):
        """The call raises this error, with a tuple that it made itself, of these very objects."""
        with self.assertRaises(kind) as caught:
            call(*arguments, **more)
        self.assertIs(caught.exception.__class__, kind)
        value = caught.exception.value
        self.assertIs(value.__class__, field.__class__)
        self.assertEqual(len(value), len(field))
        for one, other in zip(value, field):
            self.assertIs(one, other)

    def cannot_be_iterated(self, thing):
        """None of the usual ways to iterate works."""
        for way in (iter, list, tuple, sorted, sum, enumerate):
            with self.assertRaises(TypeError):
                way(thing)
        with self.assertRaises(TypeError):
            [*thing]

    def unequal(self, one, other):
        """Both signs tell so, from both sides."""
        self.assertIs(one == other, False)
        self.assertIs(one != other, True)
        if not isinstance(other, EqualToAll):
            self.assertIs(other == one, False)
            self.assertIs(other != one, True)

    def equal(self, one, other):
        """Both signs tell so, from both sides."""
        self.assertIs(one == other, True)
        self.assertIs(other == one, True)
        self.assertIs(one != other, False)
        self.assertIs(other != one, False)
