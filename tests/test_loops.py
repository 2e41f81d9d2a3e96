"""Point [5]: loops."""

import unittest

from tests.support import GREAT, Case, no_integers, odd_objects, own_objects
from vectorwidths.errors import (
    InvalidLine, InvalidLoop, InvalidName, InvalidNumber, InvalidRef, InvalidStatement)
from vectorwidths.lines import Line
from vectorwidths.loops import Loop
from vectorwidths.statements import Statement

F = Statement("f", ("a", 1), ("a", 0))
G = Statement("g", ("b", 0), ("a", 2))
S = Statement("s", None, ("a", 0))


def two():
    """A loop with two lines and three statements."""
    return Loop([Line("a"), Line("b", 2)], F, G, S)


def letters(many):
    """So many statements of unlike names."""
    return [Statement("abcdefgh"[at], ("a", at)) for at in range(many)]


class Making(Case):
    def test_properties(self):
        loop = two()
        self.assertIs(loop.lines.__class__, tuple)
        self.assertIs(loop.statements.__class__, tuple)
        self.assertEqual(loop.lines, (Line("a"), Line("b", 2)))
        self.assertEqual(loop.statements, (F, G, S))
        for name in ("lines", "statements"):
            with self.assertRaises(AttributeError):
                setattr(loop, name, ())

    def test_lists_and_tuples(self):
        lines = [Line("a"), Line("b", 2)]
        loop = Loop(lines, F, G, S)
        self.equal(loop, Loop(tuple(lines), F, G, S))
        lines.append(Line("c"))
        self.assertEqual(len(loop.lines), 2)
        self.equal(loop, two())

    def test_numbers_of_lines(self):
        three = [Line("a"), Line("b"), Line("c")]
        self.assertEqual(len(Loop(three, F).lines), 3)
        self.assertEqual(len(Loop(three[:1], F).lines), 1)
        for wrong in ([], (), [*three, Line("d")], [Line("a"), Line("a", 2)], (Line("b"), Line("a"), Line("b"))):
            self.refuses(InvalidLine, wrong, Loop, wrong, F)
            self.refuses(InvalidLine, wrong, Loop, wrong)
            self.refuses(InvalidLine, wrong, Loop, lines=wrong)

    def test_no_lines(self):
        for wrong in odd_objects() + own_objects() + [0, "a", GREAT]:
            self.refuses(InvalidLine, wrong, Loop, wrong, 1)
            for held in ([wrong], (Line("a"), wrong)):
                if not isinstance(wrong, Line):
                    self.refuses(InvalidLine, held, Loop, held, F)

    def test_numbers_of_statements(self):
        lines = [Line("a")]
        self.assertEqual(len(Loop(lines, *letters(1))), 1)
        self.assertEqual(len(Loop(lines, *letters(5))), 5)
        for wrong in ((), tuple(letters(6)), (F, Statement("f", ("a", 5))), (F, S, F)):
            self.refuses_equal(InvalidStatement, wrong, Loop, lines, *wrong)
        self.refuses_equal(InvalidStatement, (), Loop, lines=lines)

    def test_no_statements(self):
        for wrong in odd_objects() + [Line("a"), Loop.copying(), 0, "f", [F]]:
            self.refuses_equal(InvalidStatement, (wrong,), Loop, [Line("a")], wrong)
            self.refuses_equal(InvalidStatement, (F, wrong), Loop, [Line("a")], F, wrong)

    def test_lines_come_before_statements(self):
        wrong = []
        self.refuses(InvalidLine, wrong, Loop, wrong, 7, 8)
        self.refuses_equal(InvalidStatement, (G, 7), Loop, [Line("a")], G, 7)

    def test_refs_on_no_line(self):
        lines = [Line("a")]
        for wrong in (Statement("x", ("b", 0)), Statement("x", None, ("b", 0)), Statement("x", ("a", 0), ("c", 1)),
                      Statement("x", None, ("a", 0), ("a", 1), ("d", 0))):
            with self.assertRaises(InvalidLoop) as caught:
                Loop(lines, F, wrong, Statement("y", ("z", 0)))
            self.assertEqual(caught.exception.value, "x")
        with self.assertRaises(InvalidLoop) as caught:
            Loop(lines, F, G)
        self.assertEqual(caught.exception.value, "g")


class Reading(Case):
    def test_by_number_and_name(self):
        loop = two()
        self.assertEqual([loop[0], loop[1], loop[2], len(loop)], [F, G, S, 3])
        self.assertEqual([loop["f"], loop["g"], loop["s"]], [F, G, S])

    def test_wrong_keys(self):
        loop = two()
        for wrong in [3, -1, GREAT, -GREAT] + [one for one in no_integers() if not isinstance(one, str)]:
            self.refuses(InvalidNumber, wrong, lambda: loop[wrong])
        for wrong in ["", "a", "x", "F", "ff", "0"] + [one for one in odd_objects() if isinstance(one, str)]:
            self.refuses(InvalidName, wrong, lambda: loop[wrong])

    def test_in(self):
        loop = two()
        for name in ("f", "g", "s"):
            self.assertIs(name in loop, True)
        for value in ["a", "", "ff", 0, F, ("f",), ["f"]] + odd_objects() + own_objects():
            self.assertIs(value in loop, False)

    def test_cannot_be_iterated(self):
        self.cannot_be_iterated(two())

    def test_line(self):
        loop = two()
        self.assertEqual([loop.line("a"), loop.line(name="b")], [Line("a"), Line("b", 2)])
        for wrong in ["c", "f", "", 0] + odd_objects() + own_objects():
            self.refuses(InvalidName, wrong, loop.line, wrong)

    def test_cell(self):
        loop = two()
        self.assertEqual([loop.cell(("a", 1), 4), loop.cell(at=4, ref=("b", -1))], [("a", 5), ("b", 7)])
        self.assertEqual(loop.cell(("b", 9), GREAT), ("b", 2 * GREAT + 9))
        for wrong in [("c", 0), ("f", 0), ["a", 0], ("a", True), "a", None] + odd_objects() + own_objects():
            self.refuses(InvalidRef, wrong, loop.cell, wrong, -1)
        for wrong in [-1, -GREAT] + no_integers():
            self.refuses(InvalidNumber, wrong, loop.cell, ("a", 0), wrong)


class Orders(Case):
    def test_in_order(self):
        loop = two()
        self.equal(loop.in_order("s", "f", "g"), Loop([Line("a"), Line("b", 2)], S, F, G))
        self.equal(loop.in_order("f", "g", "s"), loop)
        self.equal(loop, two())

    def test_wrong_names(self):
        loop = two()
        for wrong in (
                (), ("f",), ("f", "g"), ("f", "g", "s", "s"), ("f", "g", "g"), ("f", "g", "x"), ("f", "g", "s", "x"),
                ("f", "g", 2), (0, 1, 2), (["f", "g", "s"],), ("f", "g", None), ("f", "g", ["s"]), ("f", "g", {}),
                (F, G, S), ("f", "g", True), ("F", "g", "s")):
            self.refuses_equal(InvalidName, wrong, loop.in_order, *wrong)
        for odd in odd_objects() + own_objects():
            self.refuses_equal(InvalidName, ("f", odd, "s"), loop.in_order, "f", odd, "s")


class Adding(Case):
    def test_one_more_statement(self):
        loop = Loop.copying()
        self.equal(loop + S, Loop([Line("a")], F, S))
        self.equal(loop, Loop.copying())
        self.equal(loop + S + Statement("z"), Loop([Line("a")], F, S, Statement("z")))

    def test_errors(self):
        loop = Loop.copying()
        self.refuses_equal(InvalidStatement, (loop[0], F), lambda: loop + F)
        with self.assertRaises(InvalidLoop) as caught:
            loop + G
        self.assertEqual(caught.exception.value, "g")
        five = Loop([Line("a")], *letters(5))
        self.refuses_equal(InvalidStatement, (*five.statements, F), lambda: five + F)
        for odd in odd_objects() + [Line("a"), Loop.copying(), 0, "f", [F], (F,)]:
            self.refuses_equal(InvalidStatement, (loop[0], odd), lambda: loop + odd)


class Usual(Case):
    def test_copying_and_summing(self):
        self.equal(Loop.copying(), Loop([Line("a", 1)], Statement("f", ("a", 1), ("a", 0))))
        self.equal(Loop.summing(), Loop([Line("a", 1)], Statement("s", None, ("a", 0))))
        self.assertIsNot(Loop.copying(), Loop.copying())


class Equality(Case):
    def test_equality(self):
        self.equal(two(), two())
        a, b = Line("a"), Line("b", 2)
        for other in (
                Loop([b, a], F, G, S), Loop([a, b], G, F, S), Loop([a, b], F, G), Loop([a, Line("b")], F, G, S),
                Loop([a, b, Line("c")], F, G, S), Loop([a, b], F, G, Statement("s"))):
            self.unequal(two(), other)
        for other in odd_objects() + ["f", (F, G, S), Line("a"), F]:
            self.unequal(two(), other)


if __name__ == "__main__":
    unittest.main()
