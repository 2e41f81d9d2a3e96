"""Point [4]: names, refs, lines, cells and distances."""

import unittest

from tests.support import GREAT, Case, no_integers, odd_objects, own_objects
from vectorwidths.errors import InvalidName, InvalidNumber
from vectorwidths.lines import Line, is_name, is_ref

WRONG_NAMES = ["", "ninechars", "A", "aB", "a1", "a_", "a ", " a", "`", "{", "a\n", "z{", "x" * 20000]


class Names(Case):
    def test_names(self):
        for name in ("a", "z", "line", "abcdefgh", "zzzzzzzz"):
            self.assertIs(is_name(name), True)
            self.assertIs(is_name(value=name), True)

    def test_no_names(self):
        for value in WRONG_NAMES + [0, 1, GREAT] + own_objects() + odd_objects():
            self.assertIs(is_name(value), False)


class Refs(Case):
    def test_refs(self):
        for offset in (-9, -1, 0, 1, 9):
            self.assertIs(is_ref(("a", offset)), True)
            self.assertIs(is_ref(value=("abcdefgh", offset)), True)

    def test_no_refs(self):
        wrong = [["a", 0], ("a", 10), ("a", -10), ("a", GREAT), ("a", True), ("a", False), ("a",), ("a", 0, 0)]
        wrong += [("ninechars", 0), ("", 0), ("A", 0), (Line("a"), 0), ("a", ("a", 0)), 0, -1, GREAT]
        for value in wrong + odd_objects() + own_objects():
            self.assertIs(is_ref(value), False)


class Lines(Case):
    def test_properties(self):
        line = Line("abcdefgh", 6)
        self.assertEqual([line.name, line.stride], ["abcdefgh", 6])
        line = Line(stride=2, name="z")
        self.assertEqual([line.name, line.stride], ["z", 2])
        self.assertEqual(Line("a").stride, 1)

    def test_properties_are_not_assigned(self):
        line = Line("a")
        with self.assertRaises(AttributeError):
            line.name = "b"
        with self.assertRaises(AttributeError):
            line.stride = 2

    def test_wrong_names(self):
        for name in WRONG_NAMES + odd_objects() + own_objects() + [0, GREAT]:
            self.refuses(InvalidName, name, Line, name)
            self.refuses(InvalidName, name, Line, name=name, stride=0)

    def test_wrong_strides(self):
        for stride in [0, 7, -1, GREAT, -GREAT] + no_integers():
            self.refuses(InvalidNumber, stride, Line, "a", stride)
            self.refuses(InvalidNumber, stride, Line, "a", stride=stride)

    def test_equality(self):
        self.equal(Line("a"), Line("a", 1))
        self.equal(Line("abc", 6), Line("abc", 6))
        for other in [Line("b"), Line("a", 2), "a", ("a", 1), 1, None] + odd_objects():
            self.unequal(Line("a"), other)


class Cells(Case):
    def test_cells(self):
        self.assertEqual(Line("a").cell(0, 0), ("a", 0))
        self.assertEqual(Line("a", 2).cell(-1, 3), ("a", 5))
        self.assertEqual(Line("b", 6).cell(-9, 1), ("b", -3))
        self.assertEqual(Line("b", 6).cell(offset=9, at=2), ("b", 21))
        self.assertEqual(Line("a", 6).cell(9, GREAT), ("a", 6 * GREAT + 9))

    def test_wrong_arguments(self):
        line = Line("a", 3)
        for offset in [10, -10, GREAT, -GREAT] + no_integers():
            self.refuses(InvalidNumber, offset, line.cell, offset, -1)
        for at in [-1, -GREAT] + no_integers():
            self.refuses(InvalidNumber, at, line.cell, 9, at)
            self.refuses(InvalidNumber, at, line.cell, at=at, offset=-9)


class Distances(Case):
    def test_told_by_the_cells(self):
        for stride in range(1, 7):
            line = Line("a", stride)
            for first in range(-9, 10):
                for second in range(-9, 10):
                    found = [d for d in range(-18, 19)
                             if line.cell(second, 50 + d) == line.cell(first, 50)]
                    self.assertEqual(line.distance(first, second), found[0] if found else None)

    def test_both_ways(self):
        line = Line("a", 2)
        self.assertEqual([line.distance(4, 0), line.distance(0, 4), line.distance(3, 3)], [2, -2, 0])
        self.assertEqual([line.distance(1, 0), line.distance(first=0, second=1)], [None, None])
        self.assertEqual([Line("a").distance(9, -9), Line("a").distance(-9, 9)], [18, -18])

    def test_the_first_wrong_offset(self):
        line = Line("a")
        for wrong in [10, -10, GREAT] + no_integers():
            self.refuses(InvalidNumber, wrong, line.distance, wrong, 0)
            self.refuses(InvalidNumber, wrong, line.distance, 0, wrong)
            self.refuses(InvalidNumber, wrong, line.distance, wrong, 11)


class Times(Case):
    def test_factors(self):
        for stride in range(1, 7):
            line = Line("abc", stride)
            for factor in range(1, 9):
                if stride * factor <= 6:
                    self.equal(line * factor, Line("abc", stride * factor))
                else:
                    self.refuses(InvalidNumber, factor, lambda: line * factor)
            self.equal(line, Line("abc", stride))

    def test_the_result_is_new(self):
        line = Line("a", 2)
        self.assertIsNot(line * 1, line)

    def test_wrong_factors(self):
        for factor in [0, -1, 7, GREAT, -GREAT] + no_integers():
            self.refuses(InvalidNumber, factor, lambda: Line("a") * factor)


if __name__ == "__main__":
    unittest.main()
