"""Points [11], (b), (c): all widths and all counts."""

import itertools
import time
import unittest

from tests.samples import all_ways, drawn_loops, drawn_ways, small_loops
from tests.support import GREAT, Case, no_integers
from vectorwidths.distances import reach
from vectorwidths.errors import InvalidBundles, InvalidNumber
from vectorwidths.flows import differences
from vectorwidths.lines import Line
from vectorwidths.loops import Loop
from vectorwidths.statements import Statement
from vectorwidths.texts import read
from vectorwidths.ways import Way
from vectorwidths.widths import first_count, first_wrong, greatest_safe, is_safe, last_count, safe_widths

FAR = 'line a 1\nf a@9 a@-9'
# The stores of f and g are turned about in each block, but h covers them at once.
COVERED = 'line a 1\nf a@0\ng a@1\nh a@0'


def bound(loop):
    """G."""
    return max(2, 2 * reach(loop) + 1)


def first_found(loop, way, width):
    """The least count with differences up to some beyond the last one, and the first difference there; else None."""
    for count in range(2 * width + 2 * reach(loop) + 4):
        found = differences(loop, way, width, count)
        if found:
            return (count, found[0])
    return None


class AgainstDifferences(Case):
    def check(self, loop, way):
        """All functions against all differences at widths up to some above G."""
        g = bound(loop)
        found = {width: first_found(loop, way, width) for width in range(1, g + 4)}
        wrong = [width for width in found if found[width] is not None]
        for width in found:
            self.assertEqual(first_count(loop, way, width), found[width] and found[width][0])
        self.assertEqual(first_wrong(loop, way), (wrong[0], *found[wrong[0]]) if wrong else None)
        safe = tuple(width for width in range(1, g + 1) if width not in wrong)
        self.assertEqual(safe_widths(loop, way), (safe, g not in wrong))
        self.assertEqual({width in wrong for width in range(g, g + 4)}, {g in wrong})
        self.assertIs(is_safe(loop, way), not wrong)
        self.assertEqual(greatest_safe(loop, way), wrong[0] - 1 if wrong else None)

    def test_small_loops(self):
        for number, loop in enumerate(small_loops()):
            for way in drawn_ways(loop, 8, number):
                self.check(loop, way)

    def test_drawn_loops(self):
        for seed, most in ((1, 1), (2, 2), (3, 3)):
            for number, loop in enumerate(drawn_loops(40, seed, 3, most)):
                for way in drawn_ways(loop, 2, 100 * seed + number):
                    self.check(loop, way)

    def test_all_ways_of_some_loops(self):
        for text in ('line a 1\nf a@0 a@2\ng a@1 a@0', 'line a 1\nf a@1 a@0'):
            for way in all_ways(read(text)):
                self.check(read(text), way)

    def test_cells_alone(self):
        refs = [("a", offset) for offset in (0, 1, 2)]
        for targets in itertools.product(refs, repeat=3):
            loop = Loop([Line("a")], *[Statement("fgh"[at], ref) for at, ref in enumerate(targets)])
            for tail in ("mask", "rest"):
                self.check(loop, Way(tail=tail))


class Told(Case):
    def test_copying(self):
        loop = Loop.copying()
        self.assertEqual(first_wrong(loop, Way()), (2, 2, ("load", 0, 1, 0)))
        self.assertEqual(first_wrong(loop, Way(tail="rest")), (2, 2, ("load", 0, 1, 0)))
        self.assertEqual(first_wrong(loop, Way(tail="whole")), (2, 1, ("cell", "a", 2)))
        self.assertEqual(first_wrong(loop, Way(ahead=1)), (1, 2, ("load", 0, 1, 0)))
        self.assertEqual(safe_widths(loop, Way()), ((1,), False))
        self.assertEqual(safe_widths(loop, Way(ahead=1)), ((), False))
        self.assertEqual(safe_widths(loop, Way.careful(loop)), ((1, 2, 3), True))
        self.assertEqual([greatest_safe(loop, way) for way in (Way(), Way(ahead=2), Way.careful(loop))], [1, 0, None])

    def test_the_least_count_is_that_of_the_least_width(self):
        loop = read('line a 1\nf a@3 a@0')
        self.assertEqual(first_wrong(loop, Way()), (4, 4, ("load", 0, 3, 0)))
        self.assertEqual([first_count(loop, Way(), width) for width in (1, 3, 4, 5, 9, 200)], [None, None, 4, 4, 4, 4])
        rest = Way(tail="rest")
        self.assertEqual([first_count(loop, rest, width) for width in (3, 4, 5, 9, 200)], [None, 4, 5, 9, 200])
        ahead = Way(tail="rest", ahead=1)
        self.assertEqual([first_count(loop, ahead, width) for width in (1, 2, 3, 4, 200)], [None, 4, 6, 4, 200])
        whole = Way(tail="whole")
        self.assertEqual([first_count(loop, whole, width) for width in (1, 2, 200)], [None, 1, 1])

    def test_loops_with_reach_0(self):
        for text in ('line a 1\ns + a@0', 'line a 1\nf a@0 a@0', 'line a 1\nf a@0\ng a@0', 'line a 2\nf a@0 a@1'):
            loop = read(text)
            self.assertEqual(reach(loop), 0)
            self.assertEqual([last_count(loop, Way(), width) for width in (1, 2, 200)], [2, 4, 400])
            self.assertEqual(first_wrong(loop, Way()), None)
            self.assertEqual(safe_widths(loop, Way(tail="rest")), ((1, 2), True))
        whole = Way(tail="whole")
        self.assertEqual(safe_widths(read('line a 1\nf a@0'), whole), ((1,), False))
        self.assertEqual(first_wrong(read('line a 1\nf a@0'), whole), (2, 1, ("cell", "a", 1)))
        self.assertEqual(safe_widths(Loop.summing(), whole), ((1, 2), True))
        self.assertEqual(first_wrong(read('line a 1\nf a@0\ns + a@0'), Way(ahead=1)), (1, 1, ("load", 1, 0, 0)))

    def test_great_reach(self):
        loop = read(FAR)
        self.assertEqual(first_wrong(loop, Way()), (19, 19, ("load", 0, 18, 0)))
        self.assertEqual(safe_widths(loop, Way()), (tuple(range(1, 19)), False))
        self.assertEqual(last_count(loop, Way(), 200), 436)
        self.assertEqual(first_wrong(loop, Way(ahead=1)), (10, 19, ("load", 0, 18, 0)))
        self.assertEqual(first_wrong(loop, Way(ahead=2, tail="rest")), (7, 21, ("load", 0, 18, 0)))
        self.assertEqual(first_wrong(loop, Way(ahead=3)), (5, 19, ("load", 0, 18, 0)))
        back = read('line a 1\nf a@-9 a@9')
        self.assertEqual(safe_widths(back, Way(ahead=3, tail="rest")), (tuple(range(1, 38)), True))
        self.assertEqual(greatest_safe(back, Way()), None)

    def test_great_loops_take_no_long_time(self):
        begun = time.process_time()
        sources = [("a", 9), ("b", -9), ("c", 0)]
        statements = [Statement(name, ("abc"[at % 3], 9 - at), *sources) for at, name in enumerate("fghij")]
        loop = Loop([Line("a"), Line("b"), Line("c")], *statements)
        for tail in ("mask", "rest", "whole"):
            for ahead in range(4):
                way = Way(tail=tail, ahead=ahead)
                wrong = first_wrong(loop, way)
                self.assertEqual(greatest_safe(loop, way), wrong[0] - 1)
                self.assertEqual(first_count(loop, way, 200) is None, False)
        self.assertLess(time.process_time() - begun, 30)

    def test_cells_that_end_otherwise(self):
        loop = read('line a 1\nf a@2\ng a@0\nh a@1')
        self.assertEqual(first_wrong(loop, Way()), (2, 2, ("cell", "a", 1)))
        self.assertEqual(first_wrong(read('line a 1\nf a@0\ng a@3'), Way(tail="rest")), (4, 4, ("cell", "a", 3)))
        self.assertEqual(first_wrong(read(COVERED), Way()), None)

    def test_new_results(self):
        self.assertEqual(first_wrong(Loop.copying(), Way()), first_wrong(Loop.copying(), Way()))
        way = Way()
        safe_widths(Loop.copying(), way)
        self.assertEqual(way, Way())


class Errors(Case):
    def test_bundles_first(self):
        for way in (Way(bundles=((0, 1),)), Way(bundles=((0, 0), (4, 4)))):
            for call in (first_wrong, safe_widths, is_safe, greatest_safe):
                self.refuses(InvalidBundles, way, call, Loop.copying(), way)
            for call in (last_count, first_count):
                self.refuses(InvalidBundles, way, call, Loop.copying(), way, 1)
                self.refuses(InvalidBundles, way, call, Loop.copying(), way, 0)

    def test_wrong_widths(self):
        for call in (last_count, first_count):
            for loop in (Loop.copying(), Loop.summing()):
                for wrong in [0, 201, -1, GREAT] + no_integers():
                    self.refuses(InvalidNumber, wrong, call, loop, Way(), wrong)

    def test_last_count(self):
        self.assertEqual([last_count(Loop.copying(), Way(), width) for width in (1, 2, 7, 200)], [4, 6, 16, 402])
        self.assertEqual(last_count(width=1, way=Way(tail="whole"), loop=read(FAR)), 38)

    def test_by_name(self):
        self.assertEqual(first_count(width=2, way=Way(), loop=Loop.copying()), 2)
        self.assertEqual(first_wrong(way=Way(), loop=Loop.copying())[:2], (2, 2))
        self.assertEqual(safe_widths(way=Way(), loop=Loop.copying()), ((1,), False))
        self.assertEqual([is_safe(way=Way(), loop=Loop.copying()), greatest_safe(way=Way(), loop=Loop.copying())], [False, 1])


if __name__ == "__main__":
    unittest.main()
