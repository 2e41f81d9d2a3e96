"""Choices and orders of a few things."""

import itertools
import unittest

from tests.support import Case
from vectorwidths.choices import all_choices, all_orders, is_part, least_of


class Choices(Case):
    def test_all_choices(self):
        for things in ([], ["a"], ["b", "a", "c"], [3, 1, 2, 5], ("x", "y"), list("edcba")):
            wanted = [chosen for many in range(len(things) + 1) for chosen in itertools.combinations(things, many)]
            self.assertEqual(all_choices(things), wanted)

    def test_all_orders(self):
        for things in (["a"], ["b", "a"], ["a", "b", "c", "d"], list("edcba")):
            self.assertEqual(all_orders(things), list(itertools.permutations(things)))

    def test_is_part(self):
        self.assertIs(is_part((), ()), True)
        self.assertIs(is_part((1,), (0, 1)), True)
        self.assertIs(is_part((1, 2), (0, 1)), False)
        self.assertIs(is_part((), (0,)), True)
        self.assertIs(is_part((0,), ()), False)

    def test_least_of(self):
        self.assertEqual(least_of([(0, 1), (1,), (0, 2), (1, 2)], is_part), [(1,), (0, 2)])
        self.assertEqual(least_of([], is_part), [])
        self.assertEqual(least_of([(0,), (), (1,)], is_part), [()])


if __name__ == "__main__":
    unittest.main()
