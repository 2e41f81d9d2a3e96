"""Points [12], (d): touching."""

import random
import time
import unittest

from tests.player import play_plain, play_wide
from tests.samples import ALL_BUNDLES, all_ways, drawn_loops, drawn_ways, small_loops
from tests.support import GREAT, Case, no_integers
from vectorwidths.errors import InvalidBundles, InvalidNumber
from vectorwidths.lines import Line
from vectorwidths.loops import Loop
from vectorwidths.statements import Statement
from vectorwidths.texts import read
from vectorwidths.touching import first_touch, is_tight, touches
from vectorwidths.ways import Way

FAR = 'line a 1\nf a@9 a@-9'


def loose(ahead, tail="rest", bundles=()):
    """A way with loads ahead that nobody guards."""
    return Way(tail=tail, ahead=ahead, guard=False, bundles=bundles)


def span_of(loop):
    """S: the greatest whole distance of two refs of one line."""
    refs = [ref for one in loop.statements for ref in [one.target, *one.sources] if ref is not None]
    found = [0]
    for line, offset in refs:
        for other_line, other in refs:
            if line == other_line and (offset - other) % loop.line(line).stride == 0:
                found.append((offset - other) // loop.line(line).stride)
    return max(found)


def touched(loop, way, width, count):
    """The cells of both loops gone through, by the player of the tests."""
    return sorted(play_wide(loop, way, width, count).cells - play_plain(loop, count).cells)


def first_by_cells(loop, way):
    """The first touch of all widths and counts up to the document's bounds, by the sets of the cells alone."""
    alone = [j for first, last in way.bundles for j in range(first, last + 1)]
    strides = {line.name: line.stride for line in loop.lines}
    sources = [ref for j, one in enumerate(loop.statements) if j not in alone for ref in one.sources]
    refs = [ref for one in loop.statements for ref in [one.target, *one.sources] if ref is not None]

    def cells(some, iterations):
        return {(line, strides[line] * i + offset) for line, offset in some for i in iterations}

    for width in range(1, span_of(loop) + 3):
        for count in range(span_of(loop) + 2 * width + 1):
            many = count // width if way.tail == "rest" else -(-count // width)
            found = cells(refs, range(many * width)) if way.tail == "whole" else set()
            if way.tail != "mask" and many > 0 and not way.guard:
                found |= cells(sources, range(many * width, (many + way.ahead) * width))
            found -= cells(refs, range(count))
            if found:
                return (width, count, min(found))
    return None


def drawn_far(many, seed):
    """So many loops and ways with one wide load far behind many refs that are done lane by lane."""
    draw = random.Random(seed)
    for _ in range(many):
        stride = draw.choice((1, 1, 1, 2))
        offsets = sorted(draw.sample(range(-8, 10), draw.randint(4, 15)))
        others = [offsets[at:at + 3] for at in range(0, min(12, len(offsets)), 3)]
        first = Statement("f", draw.choice((("b", 0), ("a", offsets[-1]), None)), ("a", -9))
        statements = [Statement("ghij"[at], None, *[("a", offset) for offset in row]) for at, row in enumerate(others)]
        yield (
            Loop([Line("a", stride), Line("b")], first, *statements),
            loose(draw.choice((1, 1, 2, 3)), "rest", ((1, len(statements)),)))


class AgainstCells(Case):
    def test_touches(self):
        draw = random.Random(5)
        for number, loop in enumerate([*small_loops(), *drawn_loops(150, 61), *drawn_loops(30, 62, 3, 9)]):
            for way in drawn_ways(loop, 3, number):
                for _ in range(5):
                    width, count = draw.randint(1, 8), draw.randint(0, 14)
                    self.assertEqual(touches(loop, way, width, count), touched(loop, way, width, count))

    def check(self, loop, way):
        """The first touch, and whether there is one, against all widths and counts up to some above the bounds."""
        found = None
        for width in range(1, span_of(loop) + 4):
            for count in range(span_of(loop) + 2 * width + 3):
                if found is None and (cells := touched(loop, way, width, count)):
                    found = (width, count, cells[0])
        self.assertEqual(first_touch(loop, way), found)
        self.assertIs(is_tight(loop, way), found is None)

    def test_small_loops(self):
        for number, loop in enumerate(small_loops()):
            for way in drawn_ways(loop, 5, number):
                self.check(loop, way)

    def test_drawn_loops(self):
        for seed, most in ((1, 1), (2, 2), (3, 3)):
            for number, loop in enumerate(drawn_loops(25, seed, 3, most)):
                for way in drawn_ways(loop, 1, number):
                    self.check(loop, way)
                bundles = ALL_BUNDLES[len(loop)][number % len(ALL_BUNDLES[len(loop)])]
                self.check(loop, loose(1 + number % 3, ("rest", "whole")[number % 2], bundles))

    def test_loads_that_are_covered(self):
        for text in (
                'line a 1\nf a@1 a@0', 'line a 1\nf a@2 a@0\ng a@1', 'line a 1\nf a@3 a@0\ng a@1\nh a@2',
                'line a 2\nf a@4 a@0\ng a@2 a@3 a@1', 'line a 1\nf a@2\ng a@1\ns + a@0'):
            loop = read(text)
            for ahead in range(1, 4):
                for tail in ("mask", "rest", "whole"):
                    self.check(loop, loose(ahead, tail))

    def test_far_touches(self):
        widths = set()
        for loop, way in drawn_far(40, 8):
            found = first_by_cells(loop, way)
            self.assertEqual(first_touch(loop, way), found)
            self.assertIs(is_tight(loop, way), False)
            widths.add(found[0])
        self.assertGreater(len(widths), 8)

    def test_great_offsets(self):
        for most in (5, 9):
            for number, loop in enumerate(drawn_loops(100, 90 + most, 3, most)):
                bundles = ALL_BUNDLES[len(loop)][number % len(ALL_BUNDLES[len(loop)])]
                for way in (*drawn_ways(loop, 1, number), loose(1 + number % 3, "rest", bundles)):
                    self.assertEqual(first_touch(loop, way), first_by_cells(loop, way))

    def test_short_time(self):
        loops = [*drawn_loops(100, 95, 5, 9), *[loop for loop, way in drawn_far(50, 9)]]
        ways = [loose(ahead, tail) for ahead in (1, 2, 3) for tail in ("rest", "whole")]
        begun = time.process_time()
        for loop in loops:
            for way in ways:
                first_touch(loop, way)
        self.assertLess(time.process_time() - begun, 0.005 * len(loops) * len(ways))

    def test_all_ways_of_copying(self):
        for way in all_ways(Loop.copying()):
            self.check(Loop.copying(), way)


class Told(Case):
    def test_whole(self):
        whole = Way(tail="whole")
        self.assertEqual(first_touch(Loop.copying(), whole), (2, 1, ("a", 2)))
        self.assertEqual(touches(Loop.copying(), whole, 4, 5), [("a", 6), ("a", 7), ("a", 8)])
        self.assertEqual(touches(Loop.copying(), whole, 4, 8), [])
        self.assertEqual(touches(Loop.copying(), whole, 4, 0), [])
        self.assertEqual(touches(Loop.summing(), whole, 3, 1), [("a", 1), ("a", 2)])
        self.assertEqual(first_touch(read('line b 1\nline a 2\nf b@0 a@-3'), whole), (2, 1, ("a", -1)))

    def test_loads_ahead(self):
        self.assertIs(is_tight(Loop.copying(), loose(3, "mask")), True)
        self.assertIs(is_tight(Loop.copying(), Way(tail="rest", ahead=3)), True)
        self.assertIs(is_tight(Loop.copying(), Way(tail="rest", guard=False)), True)
        self.assertEqual(first_touch(Loop.summing(), loose(1)), (1, 1, ("a", 1)))
        # The cell that is loaded too far ahead is the one that is stored to last.
        self.assertEqual(first_touch(Loop.copying(), loose(1)), (2, 2, ("a", 3)))
        self.assertEqual(first_touch(Loop.copying(), loose(2)), (1, 1, ("a", 2)))
        self.assertEqual(touches(Loop.summing(), loose(1), 4, 6), [("a", 6), ("a", 7)])
        self.assertEqual(touches(Loop.summing(), loose(1), 4, 3), [])
        self.assertEqual(touches(Loop.summing(), loose(2, "whole"), 2, 1), [("a", at) for at in range(1, 6)])
        self.assertIs(is_tight(Loop.copying(), loose(2, "rest", ((0, 0),))), True)
        self.assertEqual(first_touch(Loop.copying(), loose(2, "whole", ((0, 0),))), (2, 1, ("a", 2)))

    def test_nothing_to_touch(self):
        for loop in (Loop([Line("a")], Statement("s")), Loop([Line("a"), Line("b")], Statement("s"), Statement("t"))):
            for way in all_ways(loop):
                self.assertEqual([first_touch(loop, way), is_tight(loop, way)], [None, True])

    def test_great_distances(self):
        begun = time.process_time()
        loop = read(FAR)
        self.assertEqual(first_touch(loop, Way(tail="whole")), (2, 1, ("a", -8)))
        self.assertEqual(first_touch(loop, loose(1)), (1, 1, ("a", -8)))
        offsets = [("a", offset) for offset in range(-8, 9)]
        others = [Statement("ghij"[at], *offsets[4 * at:4 * at + 4]) for at in range(4)]
        loop = Loop([Line("a")], Statement("f", ("a", 8), ("a", -9)), *others)
        way = loose(1, "rest", ((1, 4),))
        self.assertEqual(first_touch(loop, way), (18, 18, ("a", 26)))
        self.assertEqual(first_touch(loop, loose(1, "rest", ((0, 4),))), None)
        self.assertIs(is_tight(loop, way), False)
        self.assertLess(time.process_time() - begun, 30)

    def test_new_lists(self):
        whole = Way(tail="whole")
        touches(Loop.copying(), whole, 2, 1).clear()
        self.assertEqual(touches(Loop.copying(), whole, 2, 1), [("a", 2)])


class Errors(Case):
    def test_bundles_first(self):
        way = Way(bundles=((0, 1),))
        self.refuses(InvalidBundles, way, first_touch, Loop.copying(), way)
        self.refuses(InvalidBundles, way, is_tight, Loop.copying(), way)
        self.refuses(InvalidBundles, way, touches, Loop.copying(), way, 0, -1)

    def test_numbers(self):
        for wrong in [0, 201, -1, GREAT] + no_integers():
            self.refuses(InvalidNumber, wrong, touches, Loop.copying(), Way(), wrong, -1)
        for wrong in [201, -1, GREAT] + no_integers():
            self.refuses(InvalidNumber, wrong, touches, Loop.copying(), Way(), 1, wrong)
        self.assertEqual(touches(count=200, width=200, way=Way(tail="whole"), loop=Loop.copying()), [])

    def test_by_name(self):
        self.assertEqual(first_touch(way=Way(), loop=Loop.copying()), None)
        self.assertIs(is_tight(way=Way(), loop=Loop.copying()), True)


if __name__ == "__main__":
    unittest.main()
