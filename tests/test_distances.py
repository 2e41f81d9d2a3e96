"""Point [11]: distances, the reach, crossings."""

import unittest

from tests.samples import drawn_loops, small_loops
from tests.support import GREAT, Case, no_integers
from vectorwidths.distances import crossings, meets, reach
from vectorwidths.errors import InvalidNumber
from vectorwidths.lines import Line
from vectorwidths.loops import Loop
from vectorwidths.statements import Statement


def refs_with_numbers(loop):
    """All refs with the numbers of their statements and sources, -1 for targets."""
    found = []
    for p, statement in enumerate(loop.statements):
        if statement.target is not None:
            found.append((p, -1, statement.target))
        found.extend((p, a, ref) for a, ref in enumerate(statement.sources))
    return found


def meets_by_cells(loop):
    """All pairs gone through, with the distances at which their cells are found to be one."""
    found = []
    for p, a, first in refs_with_numbers(loop):
        for q, b, second in refs_with_numbers(loop):
            ordered = p < q or p == q and a < b
            if ordered and (a == -1 or b == -1):
                for d in range(-20, 21):
                    if loop.cell(first, 30) == loop.cell(second, 30 + d):
                        found.append((p, a, q, b, d))
    return sorted(found)


def far_loop(*sources, stride=1):
    """A loop that stores at 9 and loads from these offsets."""
    return Loop([Line("a", stride)], Statement("f", ("a", 9), *[("a", offset) for offset in sources]))


class Meets(Case):
    def test_all_pairs(self):
        loops = [*small_loops(), *drawn_loops(150, 71, 5), *drawn_loops(50, 72, 5, 9)]
        for loop in loops:
            found = meets_by_cells(loop)
            self.assertEqual(meets(loop), found)
            self.assertEqual(reach(loop), max([abs(meeting[4]) for meeting in found] + [0]))

    def test_told_pairs(self):
        self.assertEqual(meets(Loop.copying()), [(0, -1, 0, 0, 1)])
        self.assertEqual(meets(Loop.summing()), [])
        loop = Loop([Line("a")], Statement("f", ("a", 0), ("a", 0), ("a", 2)), Statement("g", ("a", -3), ("a", 2)))
        self.assertEqual(meets(loop), [
            (0, -1, 0, 0, 0), (0, -1, 0, 1, -2), (0, -1, 1, -1, 3), (0, -1, 1, 0, -2), (0, 0, 1, -1, 3),
            (0, 1, 1, -1, 5), (1, -1, 1, 0, -5)])
        self.assertEqual([type(one) for one in meets(loop)], [tuple] * 7)

    def test_two_sources_never_meet(self):
        loop = Loop([Line("a")], Statement("s", None, ("a", 0), ("a", 0), ("a", 1)), Statement("t", None, ("a", 0)))
        self.assertEqual(meets(loop), [])
        self.assertEqual(reach(loop), 0)
        loop = Loop([Line("a")], Statement("f", ("a", 2), ("a", 0), ("a", 0)))
        self.assertEqual(meets(loop), [(0, -1, 0, 0, 2), (0, -1, 0, 1, 2)])

    def test_strides(self):
        self.assertEqual(meets(far_loop(8, 7, 6, stride=2)), [(0, -1, 0, 1, 1)])
        self.assertEqual(meets(far_loop(8, 7, 6, stride=3)), [(0, -1, 0, 2, 1)])
        self.assertEqual(meets(far_loop(8, -9, stride=5)), [])
        loop = Loop([Line("a", 2)], Statement("f", ("a", -3), ("a", 4), ("a", 3)))
        self.assertEqual(meets(loop), [(0, -1, 0, 1, -3)])

    def test_several_lines(self):
        loop = Loop(
            [Line("b"), Line("a", 2)], Statement("f", ("a", 2), ("b", 2)), Statement("g", ("b", 1), ("a", 0), ("b", 1)))
        self.assertEqual(meets(loop), [(0, -1, 1, 0, 1), (0, 0, 1, -1, 1), (1, -1, 1, 1, 0)])
        loop = Loop([Line("a"), Line("b")], Statement("f", ("a", 0), ("b", 0)))
        self.assertEqual([meets(loop), reach(loop)], [[], 0])

    def test_reach(self):
        self.assertEqual([reach(far_loop(offset)) for offset in (9, 8, 0, -9)], [0, 1, 9, 18])
        loop = Loop([Line("a")], Statement("f", ("a", -9), ("a", 9)))
        self.assertEqual([reach(loop), meets(loop)], [18, [(0, -1, 0, 0, -18)]])
        self.assertEqual(reach(far_loop(-9, stride=3)), 6)
        loop = Loop([Line("a")], Statement("f", ("a", 1), ("a", 9), ("a", -9)))
        self.assertEqual(reach(loop), 10)


class Crossings(Case):
    def test_told(self):
        self.assertEqual(crossings(Loop.copying(), 1), [((-1, -1), (1, 1))])
        self.assertEqual(crossings(Loop.copying(), 2), [((-1, -1), (1, 0)), ((-1, 0), (1, 1))])
        self.assertEqual(crossings(far_loop(9, 7), 3), [
            ((-2, -1), (2, 0)), ((-2, -1), (2, 1)), ((-2, 0), (2, 1))])
        self.assertEqual(crossings(far_loop(9), 3), [(), (), ()])
        self.assertEqual(crossings(Loop.summing(), 2), [(), ()])

    def test_unlike_distances_once(self):
        loop = Loop([Line("a")], Statement("f", ("a", 0), ("a", 2), ("a", -2), ("a", 2)), Statement("g", ("a", 0)))
        self.assertEqual(crossings(loop, 1), [((-2, -2), (2, 2))])

    def test_all_lanes(self):
        for loop in [*drawn_loops(30, 73, 4, 9), far_loop(-9), Loop.copying()]:
            distances = {meeting[4] for meeting in meets_by_cells(loop)} - {0}
            signed = sorted(distances | {-d for d in distances})
            for width in (1, 2, 5, 19, 200):
                blocks_of = {i: i // width for i in range(-40, 300)}
                wanted = [tuple((d, blocks_of[lane + d] - blocks_of[lane]) for d in signed) for lane in range(width)]
                self.assertEqual(crossings(loop, width), wanted)

    def test_wrong_widths(self):
        for loop in (Loop.copying(), Loop.summing()):
            for wrong in [0, 201, -1, GREAT, -GREAT] + no_integers():
                self.refuses(InvalidNumber, wrong, crossings, loop, wrong)
        self.assertEqual(len(crossings(width=200, loop=Loop.summing())), 200)


if __name__ == "__main__":
    unittest.main()
