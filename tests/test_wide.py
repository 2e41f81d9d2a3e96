"""Point [9]: the wide loop."""

import unittest

from tests.support import GREAT, Case, no_integers
from vectorwidths.errors import InvalidBundles, InvalidNumber
from vectorwidths.lines import Line
from vectorwidths.loops import Loop
from vectorwidths.statements import Statement
from vectorwidths.ways import Way
from vectorwidths.wide import blocks, lanes, wide_cells, wide_events, wide_origins, wide_writers


def three():
    """A loop of three statements: one that stores, a sum, and one that loads from two sources."""
    return Loop(
        [Line("a"), Line("b")], Statement("f", ("a", 1), ("a", 0)), Statement("s", None, ("a", 1)),
        Statement("g", ("b", 0), ("b", 1), ("a", 0)))


def short(loop, way, width, count):
    """The events of the wide loop in few signs: l, s, a or t, then statement, iteration and source."""
    return " ".join(f"{word[0]}{j}{i}{k}" for word, j, i, k in wide_events(loop, way, width, count))


class Blocks(Case):
    def test_blocks(self):
        for count, mask, rest in ((0, 0, 0), (1, 1, 0), (3, 1, 0), (4, 1, 1), (5, 2, 1), (7, 2, 1), (8, 2, 2), (9, 3, 2)):
            self.assertEqual(blocks(Way(), 4, count), mask)
            self.assertEqual(blocks(way=Way(tail="whole"), width=4, count=count), mask)
            self.assertEqual(blocks(Way(tail="rest"), 4, count), rest)
        for tail in ("mask", "rest", "whole"):
            self.assertEqual([blocks(Way(tail=tail), 1, 200), blocks(Way(tail=tail), 200, 200)], [200, 1])
            self.assertEqual(blocks(Way(tail=tail), 200, 0), 0)

    def test_bundles_do_not_matter(self):
        self.assertEqual(blocks(Way(bundles=((4, 4),)), 2, 4), 2)
        self.assertEqual(lanes(Way(bundles=((4, 4),)), 2, 4, 1), (2, 3))

    def test_lanes(self):
        mask, rest, whole = Way(), Way(tail="rest"), Way(tail="whole")
        self.assertEqual([lanes(mask, 4, 6, block) for block in range(3)], [(0, 1, 2, 3), (4, 5), ()])
        self.assertEqual([lanes(rest, 4, 6, block) for block in range(3)], [
            (0, 1, 2, 3), (4, 5, 6, 7), (8, 9, 10, 11)])
        self.assertEqual([lanes(whole, 4, 6, block) for block in range(3)], [
            (0, 1, 2, 3), (4, 5, 6, 7), (8, 9, 10, 11)])
        self.assertEqual(lanes(block=1, count=3, width=2, way=mask), (2,))
        self.assertEqual([lanes(mask, 3, 0, 0), lanes(rest, 3, 0, 0), lanes(whole, 1, 0, 7)], [(), (0, 1, 2), (7,)])
        self.assertEqual(lanes(mask, 200, 200, 0), tuple(range(200)))

    def test_a_great_block(self):
        self.assertEqual(lanes(Way(), 3, 200, GREAT), ())
        for tail in ("rest", "whole"):
            self.assertEqual(lanes(Way(tail=tail), 3, 5, GREAT), (3 * GREAT, 3 * GREAT + 1, 3 * GREAT + 2))

    def test_wrong_blocks(self):
        for wrong in [-1, -GREAT] + no_integers():
            self.refuses(InvalidNumber, wrong, lanes, Way(), 2, 2, wrong)


class Errors(Case):
    CALLS = (
        lambda loop, way, width, count: list(wide_events(loop, way, width, count)), wide_origins, wide_writers, wide_cells)

    def test_wrong_widths(self):
        for wrong in [0, 201, -1, GREAT, -GREAT] + no_integers():
            for call in self.CALLS:
                self.refuses(InvalidNumber, wrong, call, Loop.copying(), Way(), wrong, -1)
            self.refuses(InvalidNumber, wrong, blocks, Way(), wrong, -1)
            self.refuses(InvalidNumber, wrong, lanes, Way(), wrong, -1, -1)

    def test_wrong_counts(self):
        for wrong in [201, -1, GREAT, -GREAT] + no_integers():
            for call in self.CALLS:
                self.refuses(InvalidNumber, wrong, call, Loop.copying(), Way(), 1, wrong)
                self.refuses(InvalidNumber, wrong, call, count=wrong, width=200, way=Way(), loop=Loop.copying())
            self.refuses(InvalidNumber, wrong, blocks, Way(), 1, wrong)
            self.refuses(InvalidNumber, wrong, lanes, Way(), 1, wrong, -1)

    def test_bundles_come_first(self):
        way = Way(bundles=((0, 1),))
        for call in self.CALLS:
            self.refuses(InvalidBundles, way, call, Loop.copying(), way, 0, -1)
            self.refuses(InvalidBundles, way, call, loop=Loop.copying(), way=way, width=1, count=0)

    def test_the_generator_raises_when_the_iteration_begins(self):
        way = Way(bundles=((0, 1),))
        self.refuses(InvalidBundles, way, next, wide_events(Loop.copying(), way, 0, -1))
        self.refuses(InvalidNumber, 0, next, wide_events(Loop.copying(), Way(), 0, -1))
        self.refuses(InvalidNumber, -1, next, wide_events(Loop.copying(), Way(), 1, -1))

    def test_the_generator_reads_the_way_when_the_iteration_begins(self):
        way = Way(bundles=((0, 1),))
        events = wide_events(Loop.copying(), way, 2, 2)
        way.bundles = ()
        self.assertEqual(next(events), ("load", 0, 0, 0))
        way.change("tail", "rest").change("ahead", 1).change("bundles", ((0, 0),))
        self.assertEqual(list(events), [("load", 0, 1, 0), ("store", 0, 0, 0), ("store", 0, 1, 0)])


class Events(Case):
    def test_tails(self):
        loop = Loop.copying()
        block = "l000 l010 s000 s010"
        self.assertEqual(short(loop, Way(), 2, 3), block + " l020 s020")
        self.assertEqual(short(loop, Way(tail="rest"), 2, 3), block + " l020 s020")
        self.assertEqual(short(loop, Way(tail="whole"), 2, 3), block + " l020 l030 s020 s030")
        for tail in ("mask", "rest", "whole"):
            self.assertEqual(short(loop, Way(tail=tail), 2, 2), block)
            self.assertEqual(short(loop, Way(tail=tail), 2, 0), "")
        self.assertEqual(short(loop, Way(), 4, 1), "l000 s000")
        self.assertEqual(short(loop, Way(tail="rest"), 4, 2), "l000 s000 l010 s010")
        self.assertEqual(short(loop, Way(tail="whole"), 3, 1), "l000 l010 l020 s000 s010 s020")

    def test_each_statement_loads_in_all_lanes_and_then_stores(self):
        self.assertEqual(
            short(three(), Way(), 2, 2), "l000 l010 s000 s010 l100 l110 a100 a110 l200 l201 l210 l211 s200 s210")

    def test_bundles(self):
        f, s, g = "l000 l010 s000 s010", "l100 l110 a100 a110", "l200 l201 l210 l211 s200 s210"
        begun = "l000 s000 l010 s010"
        middle = "l100 a100 l110 a110"
        end = "l200 l201 s200 l210 l211 s210"
        for bundles, parts in (
                (((0, 0),), [begun, s, g]), (((1, 1),), [f, middle, g]), (((2, 2),), [f, s, end]),
                (((0, 0), (2, 2)), [begun, s, end]), (((0, 0), (1, 1)), [begun, middle, g]),
                (((0, 1),), ["l000 s000 l100 a100 l010 s010 l110 a110", g]),
                (((1, 2),), [f, "l100 a100 l200 l201 s200 l110 a110 l210 l211 s210"]),
                (((0, 2),), ["l000 s000 l100 a100 l200 l201 s200 l010 s010 l110 a110 l210 l211 s210"])):
            self.assertEqual(short(three(), Way(bundles=bundles), 2, 2), " ".join(parts))

    def test_a_rest_behind_the_blocks(self):
        way = Way(tail="rest", ahead=1, bundles=((1, 1),))
        self.assertEqual(
            short(three(), way, 2, 3),
            "l000 l010 l200 l201 l210 l211 s000 s010 l100 a100 l110 a110 s200 s210 "
            "l020 s020 l120 a120 l220 l221 s220")

    def test_ahead_with_guard(self):
        loop = Loop.copying()
        self.assertEqual(short(loop, Way(ahead=1), 2, 5), "l000 l010 l020 l030 s000 s010 l040 s020 s030 s040")
        self.assertEqual(short(loop, Way(ahead=2), 2, 5), "l000 l010 l020 l030 l040 s000 s010 s020 s030 s040")
        self.assertEqual(short(loop, Way(ahead=3), 1, 2), "l000 l010 s000 s010")
        self.assertEqual(short(loop, Way(ahead=1), 1, 4), "l000 l010 s000 l020 s010 l030 s020 s030")
        self.assertEqual(short(loop, Way(ahead=1, tail="whole"), 2, 3), "l000 l010 l020 l030 s000 s010 s020 s030")

    def test_ahead_without_guard(self):
        loop = Loop.copying()
        for ahead in (1, 2, 3):
            way = Way(ahead=ahead, guard=False)
            guarded = Way(ahead=ahead)
            self.assertEqual(short(loop, way, 2, 5), short(loop, guarded, 2, 5))
        self.assertEqual(
            short(loop, Way(ahead=1, guard=False, tail="whole"), 2, 3), "l000 l010 l020 l030 s000 s010 t040 t050 s020 s030")
        self.assertEqual(
            short(loop, Way(ahead=2, guard=False, tail="rest"), 2, 3), "l000 l010 t020 t030 t040 t050 s000 s010 l020 s020")
        self.assertEqual(
            short(loop, Way(ahead=3, guard=False, tail="whole"), 1, 2), "l000 l010 t020 t030 s000 t040 s010")
        for tail in ("mask", "rest", "whole"):
            self.assertEqual(short(loop, Way(ahead=3, guard=False, tail=tail), 4, 0), "")
        self.assertEqual(short(loop, Way(ahead=3, guard=False, tail="rest"), 4, 3), "l000 s000 l010 s010 l020 s020")

    def test_ahead_loads_of_several_statements(self):
        way = Way(ahead=1, guard=False, tail="whole", bundles=((0, 0),))
        self.assertEqual(
            short(three(), way, 2, 1),
            "l100 l110 l200 l201 l210 l211 t120 t130 t220 t221 t230 t231 "
            "l000 s000 l010 s010 a100 a110 s200 s210")
        self.assertEqual(
            short(three(), Way(ahead=1, bundles=((0, 2),)), 2, 4), short(three(), Way(bundles=((0, 2),)), 2, 4))

    def test_words_of_loads_ahead(self):
        way = Way(ahead=1, guard=False, tail="whole")
        self.assertEqual(list(wide_events(Loop.summing(), way, 1, 2)), [
            ("load", 0, 0, 0), ("load", 0, 1, 0), ("add", 0, 0, 0), ("touch", 0, 2, 0), ("add", 0, 1, 0)])

    def test_great_widths_and_counts(self):
        for width, count in ((1, 200), (200, 200), (200, 1), (199, 200)):
            for tail in ("mask", "rest"):
                self.assertEqual(len(list(wide_events(Loop.copying(), Way(tail=tail), width, count))), 2 * count)
        self.assertEqual(len(list(wide_events(Loop.copying(), Way(tail="whole"), 199, 200))), 4 * 199)

    def test_width_one_is_the_plain_loop(self):
        self.assertEqual(
            short(three(), Way(), 1, 2), "l000 s000 l100 a100 l200 l201 s200 l010 s010 l110 a110 l210 l211 s210")


class Results(Case):
    def test_origins(self):
        loop = Loop.copying()
        self.assertEqual(list(wide_origins(loop, Way(), 2, 4).items()), [
            ((0, 0, 0), None), ((0, 1, 0), None), ((0, 2, 0), (0, 1)), ((0, 3, 0), None)])
        self.assertEqual(wide_origins(loop, Way(tail="whole"), 2, 1), {(0, 0, 0): None, (0, 1, 0): None})
        self.assertEqual(list(wide_origins(loop, Way(ahead=1), 1, 3)), [(0, 0, 0), (0, 1, 0), (0, 2, 0)])
        self.assertEqual(wide_origins(loop, Way(ahead=1), 1, 3)[0, 1, 0], None)

    def test_touches_get_nothing(self):
        way = Way(ahead=1, guard=False, tail="whole")
        self.assertEqual(list(wide_origins(Loop.copying(), way, 2, 2)), [(0, 0, 0), (0, 1, 0)])
        self.assertEqual(wide_cells(Loop.copying(), way, 2, 2), [("a", at) for at in range(4)])
        self.assertEqual(wide_cells(Loop.summing(), way, 2, 2), [("a", at) for at in range(4)])

    def test_writers(self):
        loop = Loop([Line("b"), Line("a")], Statement("f", ("b", 1)), Statement("g", ("a", 0)), Statement("h", ("b", 0)))
        self.assertEqual(list(wide_writers(loop, Way(), 2, 2).items()), [
            (("a", 0), (1, 0)), (("a", 1), (1, 1)), (("b", 0), (2, 0)), (("b", 1), (2, 1)), (("b", 2), (0, 1))])
        self.assertEqual(list(wide_writers(loop, Way(tail="whole"), 2, 1)), [
            ("a", 0), ("a", 1), ("b", 0), ("b", 1), ("b", 2)])
        self.assertEqual(wide_writers(Loop.summing(), Way(), 2, 2), {})

    def test_cells(self):
        self.assertEqual(wide_cells(three(), Way(), 2, 1), [("a", 0), ("a", 1), ("b", 0), ("b", 1)])
        self.assertEqual(wide_cells(Loop.copying(), Way(tail="whole"), 3, 1), [("a", at) for at in range(4)])
        self.assertEqual(wide_cells(Loop.copying(), Way(), 3, 0), [])
        self.assertEqual(wide_cells(Loop([Line("a")], Statement("s")), Way(), 3, 5), [])

    def test_nothing_is_changed(self):
        loop, way = three(), Way(ahead=1, tail="rest")
        for call in (wide_origins, wide_writers, wide_cells):
            call(loop, way, 2, 5).clear()
            self.assertNotEqual(len(call(loop, way, 2, 5)), 0)
        self.equal(way, Way(ahead=1, tail="rest"))
        self.equal(loop, three())


if __name__ == "__main__":
    unittest.main()
