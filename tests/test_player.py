"""Guarantee (a) of point [3]: the program against the player of the tests, for many loops, ways, widths and counts."""

import unittest

from tests.player import play_differences, play_plain, play_wide
from tests.samples import all_ways, drawn_loops, drawn_ways, small_loops
from vectorwidths.flows import differences, is_right_at, origin_pair
from vectorwidths.plain import plain_cells, plain_events, plain_origins, plain_writers
from vectorwidths.wide import wide_cells, wide_events, wide_origins, wide_writers


class Player(unittest.TestCase):
    def check_plain(self, loop, count):
        """The plain loop is as it is played."""
        played = play_plain(loop, count)
        self.assertEqual(list(plain_events(loop, count)), played.events)
        self.assertEqual(list(plain_origins(loop, count).items()), list(played.got.items()))
        self.assertEqual(list(plain_writers(loop, count).items()), sorted(played.held.items()))
        self.assertEqual(plain_cells(loop, count), sorted(played.cells))

    def check_wide(self, loop, way, width, count):
        """The wide loop, and its differences, are as they are played."""
        played = play_wide(loop, way, width, count)
        self.assertEqual(list(wide_events(loop, way, width, count)), played.events)
        self.assertEqual(list(wide_origins(loop, way, width, count).items()), list(played.got.items()))
        self.assertEqual(list(wide_writers(loop, way, width, count).items()), sorted(played.held.items()))
        self.assertEqual(wide_cells(loop, way, width, count), sorted(played.cells))
        self.check_differences(loop, way, width, count)

    def check_differences(self, loop, way, width, count):
        """The differences are as they are played."""
        wanted = play_differences(loop, way, width, count)
        self.assertEqual(differences(loop, way, width, count), wanted)
        self.assertIs(is_right_at(loop, way, width, count), wanted == [])

    def test_plain_loops(self):
        for loop in [*small_loops(), *drawn_loops(60, seed=1)]:
            for count in (0, 1, 2, 5):
                self.check_plain(loop, count)

    def test_small_loops_in_all_ways(self):
        for loop in small_loops():
            for way in all_ways(loop):
                for width, count in ((1, 3), (2, 3), (2, 4), (3, 2), (3, 7)):
                    self.check_wide(loop, way, width, count)

    def test_drawn_loops_in_drawn_ways(self):
        for number, loop in enumerate(drawn_loops(150, seed=2)):
            for way in drawn_ways(loop, 6, seed=number):
                for width in (1, 2, 3, 5):
                    for count in (0, 1, width - 1, width, width + 1, 2 * width, 2 * width + 1, 3 * width - 1):
                        self.check_wide(loop, way, width, count)

    def test_differences_of_three_statements_in_all_ways(self):
        for loop in drawn_loops(40, seed=3, most_offset=2):
            for way in all_ways(loop):
                for width, count in ((2, 5), (3, 6)):
                    self.check_differences(loop, way, width, count)

    def test_origin_pairs(self):
        for number, loop in enumerate(drawn_loops(25, seed=4)):
            for way in drawn_ways(loop, 3, seed=number):
                plain, wide = play_plain(loop, 5).got, play_wide(loop, way, 3, 5).got
                for load in plain:
                    self.assertEqual(origin_pair(loop, way, 3, 5, load), (plain[load], wide[load]))


if __name__ == "__main__":
    unittest.main()
