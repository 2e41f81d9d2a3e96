"""Point [10]: differences."""

import unittest

from tests.support import GREAT, Case, no_integers, odd_objects, own_objects
from vectorwidths.errors import InvalidBundles, InvalidNumber
from vectorwidths.flows import differences, is_right_at, origin_pair
from vectorwidths.lines import Line
from vectorwidths.loops import Loop
from vectorwidths.statements import Statement
from vectorwidths.ways import Way


def far(distance):
    """A loop that loads what was stored so many iterations before."""
    return Loop([Line("a")], Statement("f", ("a", distance), ("a", 0)))


class Differences(Case):
    def test_around_the_least_wrong_width_and_count(self):
        for distance in range(1, 6):
            for width in range(1, 8):
                for count in range(0, 9):
                    wrong = width > distance and count > distance
                    self.assertIs(is_right_at(far(distance), Way(), width, count), not wrong)
        self.assertEqual(differences(far(2), Way(), 3, 3), [("load", 0, 2, 0)])
        self.assertEqual(differences(far(2), Way(), 2, 9), [])
        self.assertEqual(differences(far(2), Way(), 3, 2), [])

    def test_loops_that_are_right(self):
        for loop in (far(-1), far(0), far(-3), Loop.summing()):
            for width, count in ((1, 5), (2, 5), (4, 4), (7, 20), (200, 200)):
                self.assertEqual(differences(loop, Way(), width, count), [])
                self.assertIs(is_right_at(loop, Way(), width, count), True)

    def test_lane_by_lane_is_right(self):
        for width, count in ((2, 2), (3, 7), (200, 200)):
            self.assertEqual(differences(Loop.copying(), Way.careful(Loop.copying()), width, count), [])
            self.assertEqual(differences(Loop.copying(), Way(bundles=((0, 0),), tail="rest", ahead=3), width, count), [])

    def test_loads_ascending(self):
        found = differences(Loop.copying(), Way(), 3, 7)
        self.assertEqual(found, [("load", 0, 1, 0), ("load", 0, 2, 0), ("load", 0, 4, 0), ("load", 0, 5, 0)])
        loop = Loop(
            [Line("a"), Line("b")], Statement("f", ("a", 1), ("b", 0), ("a", 0)), Statement("g", ("b", 1), ("a", 0), ("b", 0)))
        found = differences(loop, Way(), 2, 2)
        self.assertEqual(found, [("load", 0, 1, 0), ("load", 0, 1, 1), ("load", 1, 1, 1)])

    def test_loads_ahead_of_cells(self):
        loop = Loop(
            [Line("b"), Line("a")], Statement("f", ("b", 0), ("b", 1)), Statement("g", ("b", 1)), Statement("h", ("a", 0)),
            Statement("i", ("a", 1)))
        self.assertEqual(differences(loop, Way(), 2, 2), [("cell", "a", 1), ("cell", "b", 1)])
        loop = loop + Statement("j", None, ("b", 1))
        found = differences(loop, Way(), 2, 3)
        self.assertEqual(found, [("cell", "a", 1), ("cell", "b", 1)])
        loop = Loop([Line("a")], Statement("f", ("a", 0)), Statement("g", ("a", 1), ("a", 0)), Statement("h", None, ("a", 0)))
        self.assertEqual(differences(loop, Way(), 2, 2), [("load", 2, 1, 0), ("cell", "a", 1)])

    def test_cells_that_only_the_wide_loop_stores_to(self):
        whole = Way(tail="whole")
        loop = Loop([Line("a")], Statement("f", ("a", -1)))
        self.assertEqual(differences(loop, whole, 4, 2), [("cell", "a", 1), ("cell", "a", 2)])
        self.assertEqual(differences(loop, whole, 2, 2), [])
        self.assertEqual(differences(loop, whole, 4, 0), [])
        self.assertEqual(differences(Loop.copying(), whole, 2, 1), [("cell", "a", 2)])
        self.assertEqual(differences(Loop.copying(), whole, 2, 3), [
            ("load", 0, 1, 0), ("cell", "a", 4)])
        self.assertEqual(differences(Loop.summing(), whole, 7, 3), [])

    def test_loads_from_count_on_do_not_count(self):
        loop = Loop([Line("a")], Statement("f", ("a", 0), ("a", -1)), Statement("s", None, ("a", -1)))
        self.assertEqual(differences(loop, Way(tail="whole", bundles=((0, 1),)), 3, 1), [
            ("cell", "a", 1), ("cell", "a", 2)])

    def test_loads_ahead(self):
        self.assertEqual(differences(far(2), Way(ahead=1), 1, 3), [])
        self.assertEqual(differences(far(2), Way(ahead=2), 1, 3), [("load", 0, 2, 0)])
        self.assertEqual(differences(far(2), Way(ahead=1), 2, 4), [("load", 0, 2, 0), ("load", 0, 3, 0)])
        self.assertEqual(differences(far(2), Way(ahead=1, tail="rest"), 2, 3), [])

    def test_by_name(self):
        self.assertEqual(differences(count=2, width=2, way=Way(), loop=Loop.copying()), [("load", 0, 1, 0)])
        self.assertIs(is_right_at(count=2, width=2, way=Way(), loop=Loop.copying()), False)


class Pairs(Case):
    def test_pairs(self):
        loop, way = Loop.copying(), Way()
        self.assertEqual(origin_pair(loop, way, 2, 3, (0, 0, 0)), (None, None))
        self.assertEqual(origin_pair(loop, way, 2, 3, (0, 1, 0)), ((0, 0), None))
        self.assertEqual(origin_pair(load=(0, 2, 0), count=3, width=2, way=way, loop=loop), ((0, 1), (0, 1)))

    def test_no_loads_of_the_plain_loop(self):
        loop = Loop([Line("a")], Statement("f", ("a", 1), ("a", 0), ("a", 2)), Statement("g", ("a", 0)))
        for tail in ("mask", "rest", "whole"):
            for wrong in [
                    (0, 0, 2), (0, 3, 0), (1, 0, 0), (2, 0, 0), (-1, 0, 0), (0, -1, 0), (0, 0, -1), (0, GREAT, 0),
                    (False, 0, 0), (0, True, 0), (0, 0, False), [0, 0, 0], (0, 0), (0, 0, 0, 0), ((0, 0, 0),), (0, 0, "0"),
                    (0, 0, None), ([0], 0, 0), (0, {}, 0), "000", 0, ("load", 0, 0, 0), ("f", 0, 0),
                    ] + odd_objects() + own_objects():
                self.refuses(InvalidNumber, wrong, origin_pair, loop, Way(tail=tail), 2, 3, wrong)
        load = (0, 0, 0)
        self.refuses(InvalidNumber, load, origin_pair, loop, Way(), 2, 0, load)


class Errors(Case):
    CALLS = (differences, is_right_at, lambda loop, way, width, count: origin_pair(loop, way, width, count, None))

    def test_errors_in_order(self):
        way = Way(bundles=((0, 1),))
        for call in self.CALLS:
            self.refuses(InvalidBundles, way, call, Loop.copying(), way, 0, -1)
            for wrong in [0, 201, -1, GREAT] + no_integers():
                self.refuses(InvalidNumber, wrong, call, Loop.copying(), Way(), wrong, -1)
            for wrong in [201, -1, GREAT] + no_integers():
                self.refuses(InvalidNumber, wrong, call, Loop.copying(), Way(), 1, wrong)


if __name__ == "__main__":
    unittest.main()
