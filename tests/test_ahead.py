"""Loads ahead, with the rules of point [11]."""

import unittest

from tests.samples import all_ways, drawn_loops, drawn_ways, small_loops
from tests.support import Case
from vectorwidths.ahead import early_loads, safe_aheads
from vectorwidths.distances import reach
from vectorwidths.errors import InvalidBundles
from vectorwidths.flows import differences
from vectorwidths.loops import Loop
from vectorwidths.texts import read
from vectorwidths.ways import Way


def all_differences(loop, way):
    """All differences at widths and counts up to some above the bounds of point [11]."""
    most = max(2, 2 * reach(loop) + 1) + 1
    return {
        found for width in range(1, most + 1) for count in range(2 * width + 2 * reach(loop) + 2)
        for found in differences(loop, way, width, count)}


class AgainstDifferences(Case):
    def check(self, loop, way):
        """Both functions against all differences."""
        alone = [j for first, last in way.bundles for j in range(first, last + 1)]
        found = [all_differences(loop, Way(
            tail=way.tail, ahead=ahead, guard=way.guard, bundles=way.bundles)) for ahead in range(4)]
        self.assertEqual(safe_aheads(loop, way), tuple(ahead for ahead in range(4) if not found[ahead]))
        loads = {(one[1], one[3]) for one in found[way.ahead] if one[0] == "load" and one[1] not in alone}
        self.assertEqual(early_loads(loop, way), sorted(loads))

    def test_small_loops(self):
        for number, loop in enumerate(small_loops()):
            for way in drawn_ways(loop, 2, number):
                self.check(loop, way)

    def test_drawn_loops(self):
        for seed, most in ((1, 1), (2, 2), (3, 3)):
            for number, loop in enumerate(drawn_loops(25, seed, 3, most)):
                for way in drawn_ways(loop, 1, number):
                    self.check(loop, way)

    def test_all_ways(self):
        loop = read('line a 1\nf a@1 a@0 a@2')
        for way in all_ways(loop):
            self.check(loop, way)


class Told(Case):
    def test_safe_aheads(self):
        back = read('line a 1\nf a@0\ng a@1 a@2')
        self.assertEqual(safe_aheads(Loop.copying(), Way()), ())
        self.assertEqual(safe_aheads(Loop.summing(), Way()), (0, 1, 2, 3))
        self.assertEqual(safe_aheads(read('line a 1\nf a@0 a@1'), Way(tail="rest", ahead=2)), (0, 1, 2, 3))
        self.assertEqual(safe_aheads(read('line a 1\nf a@0\ns + a@0'), Way()), (0,))
        self.assertEqual(safe_aheads(read('line a 1\nf a@1\ns + a@2'), Way(ahead=3)), (1, 2, 3))
        self.assertEqual(safe_aheads(back, Way(bundles=((0, 1),))), (0, 1, 2, 3))
        self.assertEqual(safe_aheads(Loop.summing(), Way(tail="whole")), (0, 1, 2, 3))
        self.assertEqual(safe_aheads(Loop.copying(), Way(tail="whole", bundles=((0, 0),))), ())

    def test_early_loads(self):
        loop = read('line a 1\nline b 1\nf a@0 b@0\ng b@1 a@0 b@0\ns + a@1 b@1')
        self.assertEqual(early_loads(loop, Way()), [(0, 0), (1, 1), (2, 0)])
        self.assertEqual(early_loads(loop, Way(ahead=1)), [(0, 0), (1, 0), (1, 1), (2, 1)])
        self.assertEqual(early_loads(loop, Way(ahead=1, bundles=((1, 1),))), [(0, 0), (2, 1)])
        self.assertEqual(early_loads(loop, Way.careful(loop)), [])
        self.assertEqual(early_loads(loop, Way(ahead=3, tail="whole", bundles=((0, 2),))), [])

    def test_great_reach(self):
        self.assertEqual(early_loads(read('line a 1\nf a@9 a@-9 a@0 a@8'), Way()), [(0, 0), (0, 1), (0, 2)])
        self.assertEqual(safe_aheads(read('line a 1\nf a@-9 a@9'), Way()), (0, 1, 2, 3))
        self.assertEqual(safe_aheads(read('line a 1\nf a@9 a@-9'), Way()), ())

    def test_the_way_stays(self):
        way = Way(ahead=2)
        safe_aheads(Loop.copying(), way)
        early_loads(Loop.copying(), way)
        self.assertEqual(way, Way(ahead=2))

    def test_wrong_bundles(self):
        way = Way(bundles=((0, 1),))
        self.refuses(InvalidBundles, way, early_loads, Loop.copying(), way)
        self.refuses(InvalidBundles, way, early_loads, way=way, loop=Loop.summing())
        self.refuses(InvalidBundles, way, safe_aheads, Loop.copying(), way)
        self.refuses(InvalidBundles, way, safe_aheads, way=way, loop=Loop.summing())


if __name__ == "__main__":
    unittest.main()
