"""Point [5]: statements."""

import unittest

from tests.support import GREAT, Case, no_integers, odd_objects, own_objects
from vectorwidths.errors import InvalidName, InvalidNumber, InvalidRef
from vectorwidths.statements import Statement

A, B, C = ("a", 0), ("b", -9), ("c", 9)


class Making(Case):
    def test_properties(self):
        one = Statement("f", A, B, C, A)
        self.assertEqual([one.name, one.target, one.sources, one.is_sum], ["f", A, (B, C, A), False])
        self.assertIs(one.sources.__class__, tuple)

    def test_sums(self):
        for one in (Statement("s"), Statement("s", None), Statement(name="s"), Statement(target=None, name="s")):
            self.assertEqual([one.name, one.target, one.sources, len(one)], ["s", None, (), 0])
            self.assertIs(one.is_sum, True)
        self.assertIs(Statement(target=A, name="f").is_sum, False)

    def test_properties_are_not_assigned(self):
        one = Statement("f", A)
        for name in ("name", "target", "sources", "is_sum"):
            with self.assertRaises(AttributeError):
                setattr(one, name, None)

    def test_wrong_names(self):
        for name in ["", "ninechars", "F", 0] + odd_objects() + own_objects():
            self.refuses(InvalidName, name, Statement, name, "wrong", "wrong")

    def test_wrong_targets(self):
        for target in ["a", 0, GREAT] + odd_objects()[1:] + own_objects():
            self.refuses(InvalidRef, target, Statement, "f", target)
            self.refuses(InvalidRef, target, Statement, "f", target, 1, 2, 3, 4)
            self.refuses(InvalidRef, target, Statement, name="f", target=target)

    def test_too_many_sources(self):
        self.refuses_equal(InvalidRef, (A, B, C, A), Statement, "f", None, A, B, C, A)
        odd = ["x", None, [], True, 7]
        self.refuses_equal(InvalidRef, tuple(odd), Statement, "f", A, *odd)

    def test_the_first_wrong_source(self):
        for wrong in odd_objects() + own_objects() + [0, "a"]:
            self.refuses(InvalidRef, wrong, Statement, "f", A, wrong)
            self.refuses(InvalidRef, wrong, Statement, "f", None, A, wrong, "later")
            self.refuses(InvalidRef, wrong, Statement, "f", None, A, B, wrong)


class Reading(Case):
    def test_by_number(self):
        one = Statement("f", None, A, B, C)
        self.assertEqual([len(one), one[0], one[1], one[2]], [3, A, B, C])

    def test_wrong_numbers(self):
        one = Statement("f", None, A, B, C)
        for wrong in [3, -1, GREAT, -GREAT, "0", "f"] + no_integers():
            self.refuses(InvalidNumber, wrong, lambda: one[wrong])
        self.refuses(InvalidNumber, 0, lambda: Statement("f", A)[0])
        self.refuses(InvalidNumber, 1, lambda: Statement("f", A, B)[1])

    def test_in(self):
        one = Statement("f", A, B, C)
        for ref in (A, B, C, ("a", 0)):
            self.assertIs(ref in one, True)
        for value in [("a", 1), ["a", 0], ("a", False), 0, "f", "a"] + odd_objects() + own_objects():
            self.assertIs(value in one, False)
        self.assertIs(None in Statement("s", None, A), False)
        self.assertIs(("b", -9) in Statement("s", None, B), True)
        self.assertIs(A in Statement("s"), False)

    def test_cannot_be_iterated(self):
        self.cannot_be_iterated(Statement("f", A, B))
        self.cannot_be_iterated(Statement("f"))


class Moving(Case):
    def test_moved(self):
        one = Statement("f", ("a", 1), ("a", 0), ("b", -2))
        self.equal(one.moved(8), Statement("f", ("a", 9), ("a", 8), ("b", 6)))
        self.equal(one.moved(by=-7), Statement("f", ("a", -6), ("a", -7), ("b", -9)))
        self.equal(one.moved(0), one)
        self.equal(one, Statement("f", ("a", 1), ("a", 0), ("b", -2)))

    def test_sums(self):
        one = Statement("s", None, ("a", 0)).moved(9)
        self.assertEqual([one.target, one.sources], [None, (("a", 9),)])
        for by in (0, 10, GREAT, -GREAT):
            self.equal(Statement("s").moved(by), Statement("s"))

    def test_beyond_the_bounds(self):
        one = Statement("f", ("a", 1), ("a", 0), ("b", -2))
        for by in (9, -8, 18, GREAT, -GREAT):
            self.refuses(InvalidNumber, by, one.moved, by)
        self.refuses(InvalidNumber, 10, Statement("f", ("a", 0)).moved, 10)

    def test_no_integers(self):
        for by in no_integers():
            self.refuses(InvalidNumber, by, Statement("f", A).moved, by)
            self.refuses(InvalidNumber, by, Statement("f").moved, by)


class Equality(Case):
    def test_equality(self):
        one = Statement("f", A, B, C)
        self.equal(one, Statement("f", A, B, C))
        for other in (
                Statement("g", A, B, C), Statement("f", B, B, C), Statement("f", A, C, B), Statement("f", A, B),
                Statement("f", None, A, B, C), Statement("f", None, B, C)):
            self.unequal(one, other)
        for other in odd_objects() + ["f", (A, B, C)]:
            self.unequal(one, other)
        self.unequal(Statement("f", A), Statement("f", None, A))


if __name__ == "__main__":
    unittest.main()
