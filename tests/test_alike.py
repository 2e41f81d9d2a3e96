"""Points [16], (g): loops alike."""

import itertools
import random
import time
import unittest

from tests.player import play_plain
from tests.samples import drawn_loops, drawn_ways
from tests.support import Case
from vectorwidths.alike import alike_orders, are_alike, first_unlike, safe_order
from vectorwidths.distances import reach
from vectorwidths.errors import InvalidBundles, InvalidLoop
from vectorwidths.lines import Line
from vectorwidths.loops import Loop
from vectorwidths.statements import Statement
from vectorwidths.texts import read
from vectorwidths.ways import Way
from vectorwidths.widths import is_safe


def by_name(loop, n):
    """What the loads get and who stored to the cells last, told by names, by the player of the tests."""
    names = [statement.name for statement in loop.statements]
    memory = play_plain(loop, n)
    told = {None: None}
    told.update({(j, i): (names[j], i) for j in range(len(names)) for i in range(n)})
    return (
        {(names[j], i, k): told[origin] for (j, i, k), origin in memory.got.items()},
        {cell: told[writer] for cell, writer in memory.held.items()})


def first_by_play(one, other):
    """The least count at which they differ, up to one that is great enough."""
    for n in range(2 * reach(one) + 6):
        if by_name(one, n) != by_name(other, n):
            return n
    return None


def orders_of(loop):
    """All orders of the names, ascending."""
    return list(itertools.permutations(sorted(statement.name for statement in loop.statements)))


def mixed(loop, draw):
    """The same lines and statements in another order."""
    lines, statements = list(loop.lines), list(loop.statements)
    draw.shuffle(lines)
    draw.shuffle(statements)
    return Loop(lines, *statements)


class AgainstThePlayer(Case):
    def test_first_unlike(self):
        draw = random.Random(2)
        for most in (1, 2, 3, 9):
            for loop in drawn_loops(50, most, 4, most):
                other = mixed(loop, draw)
                found = first_by_play(loop, other)
                self.assertEqual(first_unlike(loop, other), found)
                self.assertEqual(first_unlike(other, loop), found)
                self.assertIs(are_alike(loop, other), found is None)

    def test_alike_orders(self):
        for most in (1, 2, 9):
            for loop in drawn_loops(15, 20 + most, 4, most):
                wanted = [order for order in orders_of(loop) if first_by_play(loop, loop.in_order(*order)) is None]
                self.assertEqual(alike_orders(loop), wanted)
                self.assertIn(tuple(statement.name for statement in loop.statements), wanted)

    def test_safe_order(self):
        found = 0
        for most in (1, 2, 3):
            for number, loop in enumerate(drawn_loops(40, 30 + most, 3, most)):
                for way in drawn_ways(loop, 2, number):
                    orders = [order for order in alike_orders(loop) if is_safe(loop.in_order(*order), way)]
                    self.assertEqual(safe_order(loop, way), orders[0] if orders else None)
                    found += len(orders) > 0 and not is_safe(loop, way)
        self.assertGreater(found, 0)


class Told(Case):
    def test_lines_and_statements_in_another_order(self):
        one = read('line a 1\nline b 2\nf a@0\ng b@0')
        other = read('line b 2\nline a 1\ng b@0\nf a@0')
        self.assertIs(are_alike(one, other), True)
        self.assertEqual(first_unlike(one, other), None)
        self.assertIs(are_alike(one, one), True)
        self.assertIs(are_alike(other=one, one=other), True)

    def test_others(self):
        loop = read('line a 1\nf a@0\ng a@1 a@0')
        for text in (
                'line a 2\nf a@0\ng a@1 a@0', 'line a 1\nline b 1\nf a@0\ng a@1 a@0', 'line a 1\nf a@0',
                'line a 1\nf a@0\ng a@1 a@0\nh a@0', 'line a 1\nf a@0\ng a@1 a@0 a@0', 'line a 1\nf a@0\nh a@1 a@0',
                'line a 1\nf a@0\ng a@0 a@0', 'line a 1\nf a@0\ng + a@0', 'line b 1\nf b@0\ng b@1 b@0'):
            other = read(text)
            for one, two in ((loop, other), (other, loop)):
                self.assertIs(are_alike(one, two), False)
                self.refuses(InvalidLoop, two, first_unlike, one, two)
        self.refuses(InvalidLoop, loop, first_unlike, other=loop, one=Loop.copying())
        one, other = read('line a 1\nline b 1\nf a@0'), read('line c 1\nline a 1\nf a@0')
        self.assertIs(are_alike(one, other), False)
        self.refuses(InvalidLoop, other, first_unlike, one, other)

    def test_first_unlike(self):
        loop = read('line a 1\nf a@0\ng + a@0')
        self.assertEqual(first_unlike(loop, loop.in_order("g", "f")), 1)
        # The load of g meets the store of f three iterations later, so that the order does not matter.
        loop = read('line a 1\nf a@0\ng + a@3')
        self.assertEqual(first_unlike(loop, loop.in_order("g", "f")), None)
        loop = read('line a 1\nf a@0\ng a@0')
        self.assertEqual(first_unlike(loop, loop.in_order("g", "f")), 1)
        loop = read('line a 1\nf a@2\ng a@2\ns + a@0\nt a@2')
        self.assertEqual(first_unlike(loop, loop.in_order("g", "f", "s", "t")), None)
        self.assertEqual(first_unlike(loop, loop.in_order("t", "f", "s", "g")), 1)
        loop = read('line a 1\nf a@4\ng a@4\nh a@2\ns + a@2')
        self.assertEqual(first_unlike(loop, loop.in_order("f", "g", "s", "h")), 1)

    def test_loads_alone(self):
        # All stores of f are covered by those of h, but between them s loads what f stored.
        loop = read('line a 1\nf a@0\ns + a@0\nh a@0')
        self.assertEqual(alike_orders(loop), [("f", "s", "h")])
        loop = read('line a 1\nf a@1\ng a@1\nh a@0\ns + a@1')
        self.assertEqual(
            alike_orders(loop), [order for order in orders_of(loop) if first_by_play(loop, loop.in_order(*order)) is None])

    def test_alike_orders(self):
        self.assertEqual(alike_orders(Loop.copying()), [("f",)])
        loop = read('line a 1\nline b 1\ng a@0 b@1\nf b@0\ns + a@2')
        self.assertEqual(alike_orders(loop), orders_of(loop))
        loop = read('line a 1\nz a@0\nb + a@0\na + a@0')
        self.assertEqual(alike_orders(loop), [("z", "a", "b"), ("z", "b", "a")])
        alike_orders(loop).clear()
        self.assertEqual(len(alike_orders(loop)), 2)

    def test_safe_order(self):
        loop = read('line a 1\nline b 1\nf a@0 b@0\ng b@1')
        self.assertEqual(is_safe(loop, Way()), False)
        self.assertEqual(safe_order(loop, Way()), ("g", "f"))
        self.assertEqual(safe_order(Loop.copying(), Way()), None)
        self.assertEqual(safe_order(way=Way.careful(loop), loop=loop), ("f", "g"))

    def test_bundles_keep_their_numbers(self):
        loop = read('line a 1\nline b 1\nf a@1 a@0\ng b@0')
        self.assertEqual(safe_order(loop, Way(bundles=((0, 0),))), ("f", "g"))
        self.assertEqual(safe_order(loop, Way(bundles=((1, 1),))), ("g", "f"))
        self.assertEqual(safe_order(loop, Way(ahead=1, bundles=((1, 1),))), ("g", "f"))

    def test_wrong_bundles(self):
        way = Way(bundles=((0, 1),))
        self.refuses(InvalidBundles, way, safe_order, Loop.copying(), way)

    def test_great_loops(self):
        begun = time.process_time()
        refs = [("a", 9), ("b", -9), ("c", 0)]
        statements = [Statement(name, ("abc"[at % 3], 9 - at), *refs) for at, name in enumerate("fghij")]
        loop = Loop([Line("a"), Line("b"), Line("c")], *statements)
        orders = alike_orders(loop)
        self.assertEqual(orders, [
            order for order in orders_of(loop) if by_name(loop, 19) == by_name(loop.in_order(*order), 19)])
        self.assertEqual(safe_order(loop, Way()), None)
        free = Loop([Line("a")], *[Statement(name, None, ("a", -9), ("a", 9)) for name in "jihgf"])
        self.assertEqual(alike_orders(free), orders_of(free))
        self.assertEqual(safe_order(free, Way(ahead=3)), tuple("fghij"))
        self.assertLess(time.process_time() - begun, 30)


if __name__ == "__main__":
    unittest.main()
