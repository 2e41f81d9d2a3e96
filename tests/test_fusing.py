"""Points [16]: loops fused and parted."""

import random
import unittest

from tests.player import cell_of
from tests.samples import drawn_loops
from tests.support import GREAT, Case, no_integers
from vectorwidths.errors import InvalidLine, InvalidLoop, InvalidNumber, InvalidStatement
from vectorwidths.fusing import can_part, first_unfused, fused, parted
from vectorwidths.lines import Line
from vectorwidths.loops import Loop
from vectorwidths.statements import Statement
from vectorwidths.texts import read


def play_by_names(steps):
    """What the loads get, and who stored to the cells last, told by names, for steps (loop, statement, iteration)."""
    got, held = {}, {}
    for loop, statement, i in steps:
        for k, ref in enumerate(statement.sources):
            got[statement.name, i, k] = held.get(cell_of(loop, ref, i))
        if statement.target is not None:
            held[cell_of(loop, statement.target, i)] = (statement.name, i)
    return got, held


def first_by_play(one, other, up_to=45):
    """The least count at which both loops at once and one behind the other differ, up to one that is great enough."""
    for n in range(up_to):
        at_once = [(loop, statement, i) for i in range(n) for loop in (one, other) for statement in loop.statements]
        behind = [(loop, statement, i) for loop in (one, other) for i in range(n) for statement in loop.statements]
        if play_by_names(at_once) != play_by_names(behind):
            return n
    return None


def renamed(loop, names):
    """The loop with other names of its statements."""
    return Loop(loop.lines, *[
        Statement(name, one.target, *one.sources) for name, one in zip(names, loop.statements)])


def drawn_pairs(many, seed, most_offset):
    """So many pairs of loops that can be fused; the lines of the second one are often in another order."""
    draw = random.Random(seed)
    firsts = list(drawn_loops(3 * many, seed, 2, most_offset))
    others = list(drawn_loops(3 * many, seed + 1, 2, most_offset))
    found = []
    for one, other in zip(firsts, others):
        other = renamed(other, "uvwxy")
        strides = {line.name: line.stride for line in one.lines}
        if all(strides.get(line.name, line.stride) == line.stride for line in other.lines):
            if draw.random() < 0.5:
                other = Loop(other.lines[::-1], *other.statements)
            found.append((one, other))
    return found[:many]


class Fused(Case):
    def test_lines_and_statements(self):
        one = read('line a 1\nline c 2\nf a@1 a@0\ns + c@0')
        other = read('line b 3\nline c 2\nline a 1\ng b@0 c@-1\nh a@0')
        self.equal(fused(one, other), read('line a 1\nline c 2\nline b 3\nf a@1 a@0\ns + c@0\ng b@0 c@-1\nh a@0'))
        self.equal(fused(other, one), read('line b 3\nline c 2\nline a 1\ng b@0 c@-1\nh a@0\nf a@1 a@0\ns + c@0'))
        self.equal(fused(other=one, one=other), fused(other, one))
        self.equal(one, read('line a 1\nline c 2\nf a@1 a@0\ns + c@0'))
        self.equal(other, read('line b 3\nline c 2\nline a 1\ng b@0 c@-1\nh a@0'))

    def test_a_line_that_no_statement_needs(self):
        self.equal(fused(read('line a 1\nf a@0'), read('line b 1\ns +')), read('line a 1\nline b 1\nf a@0\ns +'))

    def test_unlike_strides(self):
        one = read('line a 1\nline b 2\nf a@0')
        for text in ('line b 1\ng b@0', 'line a 1\nline b 1\ng a@0', 'line a 2\ng a@0', 'line c 1\nline d 1\nline a 3\ng a@0',
                     'line b 1\nf b@0'):
            other = read(text)
            for call in (fused, first_unfused):
                self.refuses(InvalidLine, other, call, one, other)
                self.refuses(InvalidLine, other, call, other=other, one=one)
        five = Loop([Line("a")], *[Statement(name, ("a", 0)) for name in "fghij"])
        other = Loop([Line("a", 2)], five[0])
        self.refuses(InvalidLine, other, fused, five, other)

    def refuses_with(self, kind, value, one, other):
        """Both functions raise the error of Loop, with what is handed to it."""
        for call in (fused, first_unfused):
            with self.assertRaises(kind) as caught:
                call(one, other)
            self.assertIs(caught.exception.__class__, kind)
            field = caught.exception.value
            self.assertEqual(list(field), list(value))
            self.assertIsInstance(field, tuple)

    def test_errors_of_loop_in_order(self):
        one, other = read('line a 1\nline b 1\nf a@0'), read('line d 1\nline c 1\nf d@0')
        self.refuses_with(InvalidLine, [Line("a"), Line("b"), Line("d"), Line("c")], one, other)
        one, other = read('line a 1\nf a@0\ng a@1\nh a@2'), read('line a 1\nu a@0\nv a@1\nw a@2')
        self.refuses_with(InvalidStatement, [*one.statements, *other.statements], one, other)
        other = read('line b 1\nu b@0\ng b@1')
        self.refuses_with(InvalidStatement, [*one.statements, *other.statements], one, other)
        self.refuses_with(InvalidStatement, [*one.statements, *one.statements], one, one)
        self.refuses_with(InvalidStatement, [*Loop.copying().statements] * 2, Loop.copying(), Loop.copying())

    def test_a_loop_has_all_its_lines(self):
        for one, other in drawn_pairs(30, 5, 3):
            try:
                fused(one, other)
            except InvalidLoop:
                self.fail("a ref on no line")
            except InvalidLine:
                self.assertEqual(len({line.name for line in (*one.lines, *other.lines)}), 4)


class Parted(Case):
    def test_each_number(self):
        for loop in drawn_loops(40, 6, 5):
            text = [line.name for line in loop.lines], [statement.name for statement in loop.statements]
            for at in range(1, len(loop)):
                one, other = parted(loop, at)
                self.assertIs(parted(loop, at).__class__, tuple)
                self.assertEqual((one.lines, other.lines), (loop.lines, loop.lines))
                self.assertEqual((one.statements, other.statements), (loop.statements[:at], loop.statements[at:]))
                self.equal(fused(one, other), loop)
            self.assertEqual(text, ([line.name for line in loop.lines], [one.name for one in loop.statements]))

    def test_wrong_numbers(self):
        loop = read('line a 1\nf a@0\ng a@0\nh a@0')
        self.assertEqual([len(part) for part in parted(at=2, loop=loop)], [2, 1])
        for wrong in [0, 3, 4, -1, GREAT, -GREAT] + no_integers():
            self.refuses(InvalidNumber, wrong, parted, loop, wrong)
        for wrong in [0, 1, 2, -1] + no_integers():
            self.refuses(InvalidNumber, wrong, parted, Loop.copying(), wrong)


class Unfused(Case):
    def test_against_events(self):
        found = []
        for most in (1, 2, 3, 9):
            for one, other in drawn_pairs(60, 30 + most, most):
                if len({line.name for line in (*one.lines, *other.lines)}) <= 3:
                    wanted = first_by_play(one, other)
                    self.assertEqual(first_unfused(one, other), wanted)
                    found.append(wanted)
        self.assertGreater(len(set(found)), 6)
        self.assertGreater(found.count(None), 20)

    def test_parting_against_events(self):
        for most in (1, 2, 4):
            for loop in drawn_loops(40, 50 + most, 5, most):
                parts = [parted(loop, at) for at in range(1, len(loop))]
                wanted = [at for at, (one, other) in enumerate(parts, 1) if first_by_play(one, other, 25) is None]
                self.assertEqual(can_part(loop), wanted)

    def test_parting_great_offsets(self):
        for loop in drawn_loops(15, 61, 3, 9):
            parts = [parted(loop, at) for at in range(1, len(loop))]
            self.assertEqual(can_part(loop), [at for at, two in enumerate(parts, 1) if first_by_play(*two) is None])

    def test_far_offsets(self):
        one, other = read('line a 1\nf a@-9'), read('line a 1\ns + a@9')
        self.assertEqual(first_unfused(one, other), 19)
        self.assertEqual(first_unfused(other, one), None)
        self.assertEqual(first_unfused(read('line a 1\nf + a@-9'), read('line a 1\ng a@9')), 19)
        self.assertEqual(first_unfused(read('line a 1\nf a@-9'), read('line a 1\ng a@9')), 19)
        self.assertEqual(first_unfused(read('line a 6\nf a@-9'), read('line a 6\ns + a@9')), 4)
        self.assertEqual(first_unfused(read('line a 6\nf a@-9'), read('line a 6\ns + a@8')), None)

    def test_told(self):
        self.assertEqual(first_unfused(Loop.copying(), Loop.summing()), None)
        self.assertEqual(first_unfused(other=Loop.copying(), one=Loop.summing()), 2)
        self.assertEqual(first_unfused(read('line a 1\nf a@0'), read('line b 1\ng b@0 b@1')), None)
        # Two sources share a cell, but nobody stores there.
        self.assertEqual(first_unfused(read('line a 1\ns + a@0'), read('line a 1\nt + a@1')), None)
        # The store of f is turned about with that of g, but h stores to the same cell at the iteration of f.
        loop = read('line a 1\nf a@0\ng a@3\nh a@0')
        self.assertEqual([first_unfused(*parted(loop, 1)), can_part(loop)], [None, [1, 2]])
        # Only the last writer differs.
        self.assertEqual(first_unfused(read('line a 1\nf a@0'), read('line a 1\ng a@1')), 2)

    def test_lines_in_unlike_orders(self):
        one, other = read('line a 1\nline b 2\nf a@0 b@0'), read('line b 2\nline a 1\ng b@2 a@1')
        self.assertEqual(first_unfused(one, other), first_by_play(one, other))
        self.assertEqual(first_unfused(one, other), 2)

    def test_one_statement(self):
        self.assertEqual([can_part(Loop.copying()), can_part(loop=Loop.summing())], [[], []])
        can_part(Loop.copying()).append(1)
        self.assertEqual(can_part(Loop.copying()), [])


if __name__ == "__main__":
    unittest.main()
