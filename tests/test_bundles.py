"""Points [15], (f): bundles."""

import itertools
import unittest

from tests.samples import ALL_BUNDLES, drawn_loops, drawn_ways, small_loops
from tests.support import GREAT, Case, no_integers, odd_objects, own_objects
from vectorwidths.bundles import all_bundles, is_within, least_bundles
from vectorwidths.distances import reach
from vectorwidths.errors import InvalidBundles, InvalidNumber
from vectorwidths.flows import differences
from vectorwidths.lines import Line
from vectorwidths.loops import Loop
from vectorwidths.statements import Statement
from vectorwidths.texts import read
from vectorwidths.ways import Way
from vectorwidths.widths import is_safe


def bundles_gone_through(many):
    """All tuples of bundles of so many statements, from all tuples of pairs gone through."""
    pairs = [(first, last) for first in range(many) for last in range(first, many)]
    found = []
    for length in range(many + 1):
        for chosen in itertools.combinations(pairs, length):
            if all(one[1] < other[0] for one, other in zip(chosen, chosen[1:])):
                found.append(chosen)
    return sorted(found)


def numbers_of(bundle):
    """The statements of a bundle."""
    return set(range(bundle[0], bundle[1] + 1))


def lies_in(one, other):
    """Whether each bundle is a part of a bundle of the other tuple."""
    return all(any(numbers_of(bundle) <= numbers_of(great) for great in other) for bundle in one)


def least_by(loop, is_right):
    """The least tuples of bundles by a function that tells for each one whether the loop is safe with it."""
    safe = [bundles for bundles in bundles_gone_through(len(loop)) if is_right(bundles)]
    return [one for one in safe if not any(other != one and lies_in(other, one) for other in safe)]


class All(Case):
    def test_all(self):
        for many in range(1, 6):
            found = list(all_bundles(many))
            self.assertEqual(found, bundles_gone_through(many))
            self.assertEqual(found, sorted(found))
            self.assertEqual(len(set(found)), len(found))
        self.assertEqual([len(list(all_bundles(many=many))) for many in range(1, 6)], [2, 5, 13, 34, 89])
        self.assertEqual(list(all_bundles(3)), sorted(ALL_BUNDLES[3]))

    def test_errors_when_the_iteration_begins(self):
        for wrong in [0, 6, -1, GREAT] + no_integers():
            events = all_bundles(wrong)
            self.refuses(InvalidNumber, wrong, lambda: next(events))


class Within(Case):
    def test_all_pairs(self):
        for many in (1, 2, 3, 4):
            for one, other in itertools.product(bundles_gone_through(many), repeat=2):
                self.assertIs(is_within(one, other), lies_in(one, other))

    def test_told(self):
        for one, other, wanted in [
                ((), (), True), ((), ((0, 0),), True), (((0, 0),), (), False), (((0, 1),), ((0, 1),), True),
                (((0, 0), (1, 1), (3, 4)), ((0, 4),), True), (((0, 0), (2, 2)), ((0, 1), (2, 3)), True),
                (((0, 1),), ((0, 0), (1, 1)), False), (((1, 2),), ((0, 1), (2, 3)), False),
                (((0, 0), (4, 4)), ((0, 3),), False), (((3, 4),), ((2, 4),), True)]:
            self.assertIs(is_within(one, other), wanted)
        self.assertIs(is_within(other=((0, 1),), one=((1, 1),)), True)

    def test_wrong_bundles(self):
        wrong_bundles = [
            [], [(0, 0)], ([0, 0],), ((0, 5),), ((1, 0),), ((0, 0), (0, 0)), ((1, 1), (0, 0)), ((0, 1), (1, 2)), (0, 0),
            ((0, 0, 0),), ((0,),), ((True, 1),), ((0, True),), ((False, 0),), ((-1, 0),), None, "", ((0, 0), None), ((),),
            tuple((at, at) for at in range(6)), ((GREAT, GREAT),)]
        for wrong in wrong_bundles + [odd for odd in odd_objects() + own_objects() if odd != ()]:
            self.refuses(InvalidBundles, wrong, is_within, wrong, [])
            self.refuses(InvalidBundles, wrong, is_within, (), wrong)


class Least(Case):
    def check(self, loop, way):
        """The least tuples of bundles against each one tried."""
        def is_right(bundles):
            return is_safe(loop, Way(tail=way.tail, ahead=way.ahead, guard=way.guard, bundles=bundles))
        self.assertEqual(least_bundles(loop, way), least_by(loop, is_right))

    def test_small_loops(self):
        for number, loop in enumerate(small_loops()):
            for way in drawn_ways(loop, 4, number):
                self.check(loop, way)

    def test_drawn_loops(self):
        for seed, statements, most in ((1, 3, 1), (2, 3, 3), (3, 3, 9)):
            for number, loop in enumerate(drawn_loops(20, seed, statements, most)):
                for way in drawn_ways(loop, 2, number):
                    self.check(loop, way)
        for loop in drawn_loops(8, 4, 5, 2):
            self.check(loop, Way())
            self.check(loop, Way(tail="rest", ahead=2))

    def test_against_differences(self):
        for number, loop in enumerate(drawn_loops(12, 5, 3, 2)):
            for way in drawn_ways(loop, 1, number):
                most = 2 * reach(loop) + 3

                def is_right(bundles):
                    tried = Way(tail=way.tail, ahead=way.ahead, guard=way.guard, bundles=bundles)
                    return not any(
                        differences(loop, tried, width, count)
                        for width in range(1, most) for count in range(2 * width + 2 * reach(loop) + 2))

                self.assertEqual(least_bundles(loop, way), least_by(loop, is_right))

    def test_told(self):
        self.assertEqual(least_bundles(Loop.copying(), Way()), [((0, 0),)])
        self.assertEqual(least_bundles(Loop.summing(), Way()), [()])
        self.assertEqual(least_bundles(Loop.copying(), Way(tail="whole")), [])
        self.assertEqual(least_bundles(Loop.copying(), Way(ahead=1)), [((0, 0),)])
        loop = read('line a 1\nline b 1\nf a@1 b@0\ng b@1 a@0')
        self.assertEqual(least_bundles(loop, Way()), [((0, 1),)])
        loop = read('line a 1\nline b 1\nf a@1 a@0\ns + b@0\ng b@2 b@1')
        self.assertEqual(least_bundles(loop, Way()), [((0, 0), (1, 2))])
        loop = read('line a 1\nf a@0\ng a@1\nh a@2')
        self.assertEqual(least_bundles(loop, Way()), [((0, 2),)])

    def test_the_own_bundles_do_not_matter(self):
        way = Way(bundles=((0, 4),))
        self.assertEqual(least_bundles(Loop.copying(), way), [((0, 0),)])
        self.assertEqual(way, Way(bundles=((0, 4),)))
        way = Way(bundles=((0, 0),))
        self.assertEqual(least_bundles(way=way, loop=Loop.summing()), [()])

    def test_great_loops(self):
        refs = [("a", 9), ("b", -9), ("c", 0)]
        statements = [Statement(name, ("abc"[at % 3], 9 - at), *refs) for at, name in enumerate("fghij")]
        loop = Loop([Line("a"), Line("b"), Line("c")], *statements)
        self.check(loop, Way())


if __name__ == "__main__":
    unittest.main()
