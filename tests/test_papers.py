"""Points [18], (h): papers."""

import itertools
import random
import unittest

from tests.player import play_differences, play_plain
from tests.samples import all_ways, drawn_loops, drawn_ways, small_loops
from tests.support import GREAT, Case, EqualToAll, no_integers, odd_objects, own_objects
from vectorwidths.distances import reach
from vectorwidths.errors import InvalidBundles, TooMany
from vectorwidths.loops import Loop
from vectorwidths.papers import accepts, paper
from vectorwidths.texts import read
from vectorwidths.ways import Way
from vectorwidths.widths import first_wrong, last_count

COPYING = ("wrong", 2, 2, ("load", 0, 1, 0))
CAREFUL = Way(bundles=((0, 0),))


def places_of(loop):
    """All widths up to G, and all counts for them up to 2 * w + 2 * D."""
    most = reach(loop)
    for width in range(1, max(2, 2 * most + 1) + 1):
        for count in range(2 * width + 2 * most + 1):
            yield width, count


def written(loop):
    """The right paper of a loop, whether it is right or not, by the player of the tests."""
    cases = []
    for width, count in places_of(loop):
        played = play_plain(loop, count)
        cases.append((width, count, tuple(played.got.items()), tuple(sorted(played.held.items()))))
    return ("right", tuple(cases))


def first_by_play(loop, way):
    """The wrong paper of the first difference of all widths and counts, None if there is none."""
    for width, count in places_of(loop):
        found = play_differences(loop, way, width, count)
        if found:
            return ("wrong", width, count, found[0])
    return None


def one_changed(value):
    """All values in which one thing of nested tuples is changed."""
    if isinstance(value, tuple):
        yield list(value)
        yield (*value, None)
        for at, part in enumerate(value):
            yield value[:at] + value[at + 1:]
            yield value[:at] + (part,) + value[at:]
            if at > 0 and value[at - 1] != part:
                yield value[:at - 1] + (part, value[at - 1]) + value[at + 1:]
            for other in one_changed(part):
                yield value[:at] + (other,) + value[at + 1:]
    elif isinstance(value, int):
        yield value + 1
        yield value - 1
        yield None
        yield str(value)
        if value in (0, 1):
            yield value == 1
    elif isinstance(value, str):
        yield value + "x"
        yield value[:-1]
        yield 0
    else:
        yield 0
        yield False
        yield ()
        yield (0, 0)
    yield EqualToAll()


class Papers(Case):
    def check(self, loop, way):
        """The paper is as it must be, and is accepted."""
        wanted = first_by_play(loop, way)
        if wanted is not None:
            self.assertEqual(wanted[1:], first_wrong(loop, way))
        elif reach(loop) > 3:
            with self.assertRaises(TooMany) as caught:
                paper(loop, way)
            self.assertEqual(caught.exception.limit, 3)
            return False
        else:
            wanted = written(loop)
        found = paper(loop, way)
        self.assertEqual(found, wanted)
        self.assertIs(accepts(loop, way, found), True)
        return wanted[0]

    def test_small_loops_in_all_ways(self):
        found = [self.check(loop, way) for loop in small_loops() for way in list(all_ways(loop))[::3]]
        self.assertGreater(min(found.count("wrong"), found.count("right")), 50)

    def test_drawn_loops(self):
        found = []
        for most in (1, 2, 3):
            for number, loop in enumerate(drawn_loops(20, 70 + most, 3, most)):
                for way in [*drawn_ways(loop, 2, number), Way.careful(loop)]:
                    found.append(self.check(loop, way))
        self.assertGreater(min(found.count("wrong"), found.count("right"), found.count(False)), 5)

    def test_reaches(self):
        for most, cases in ((0, 8), (1, 21), (2, 55), (3, 105)):
            loop = read(f"line a 1\nf a@{most} a@0")
            self.assertEqual(reach(loop), most)
            word, told = paper(loop, CAREFUL)
            self.assertEqual([word, len(told)], ["right", cases])
            self.assertEqual([case[:2] for case in told], list(places_of(loop)))
            self.assertEqual(told[-1][:2], (max(2, 2 * most + 1), last_count(loop, CAREFUL, max(2, 2 * most + 1))))
            self.assertIs(accepts(loop, CAREFUL, (word, told)), True)

    def test_too_many(self):
        loop = read("line a 1\nf a@4 a@0")
        with self.assertRaises(TooMany) as caught:
            paper(loop, CAREFUL)
        self.assertEqual(caught.exception.limit, 3)
        self.assertEqual(paper(loop, Way()), ("wrong", 5, 5, ("load", 0, 4, 0)))
        self.assertEqual(paper(read("line a 1\nf a@9 a@-9"), Way(tail="rest")), ("wrong", 19, 19, ("load", 0, 18, 0)))
        self.assertEqual(paper(read("line a 2\nf a@6 a@0"), CAREFUL)[0], "right")
        # The checker knows no such limit.
        self.assertIs(accepts(loop, CAREFUL, written(loop)), True)
        self.assertIs(accepts(loop, Way(), written(loop)), False)

    def test_told(self):
        self.assertEqual(paper(way=Way(), loop=Loop.copying()), COPYING)
        self.assertEqual(paper(read("line a 1\nf a@0 a@0"), Way()), ("right", (
            (1, 0, (), ()), (1, 1, (((0, 0, 0), None),), ((("a", 0), (0, 0)),)),
            (1, 2, (((0, 0, 0), None), ((0, 1, 0), None)), ((("a", 0), (0, 0)), (("a", 1), (0, 1)))),
            *paper(read("line a 1\nf a@0 a@0"), Way())[1][3:])))
        self.assertEqual(paper(Loop.summing(), Way(tail="rest", ahead=3))[1][1], (1, 1, (((0, 0, 0), None),), ()))

    def test_bundles_come_first(self):
        for loop in (Loop.copying(), read("line a 1\nf a@4 a@0"), Loop.summing()):
            for bundles in (((0, 1),), ((0, 0), (4, 4))):
                way = Way(bundles=bundles)
                self.refuses(InvalidBundles, way, paper, loop, way)
                for value in (COPYING, written(loop), ("right", ()), None):
                    self.assertIs(accepts(loop, way, value), False)


class Accepted(Case):
    def test_any_difference_that_is_there(self):
        loop = read("line a 1\nline b 1\nf a@1 a@0\ng b@0 a@2\nh b@1")
        for way in (Way(), Way(tail="whole"), Way(tail="rest", ahead=1)):
            for width, count in itertools.product(range(1, 6), range(9)):
                found = play_differences(loop, way, width, count)
                every = [("load", j, i, k) for j in range(3) for i in range(9) for k in range(2)]
                every += [("cell", line, place) for line in "abc" for place in range(-1, 15)]
                for one in every:
                    self.assertIs(accepts(loop, way, ("wrong", width, count, one)), one in found)
        self.assertIs(accepts(value=COPYING, way=Way(), loop=Loop.copying()), True)

    def test_great_widths_and_counts(self):
        for width, count, at in ((200, 200, 1), (200, 2, 1), (200, 200, 199), (2, 200, 199), (7, 5, 4)):
            value = ("wrong", width, count, ("load", 0, at, 0))
            self.assertIs(accepts(Loop.copying(), Way(), value), True)
        for width, count in ((201, 200), (201, 2), (2, 201), (GREAT, 2), (2, GREAT), (0, 2), (-1, 2), (2, -1)):
            self.assertIs(accepts(Loop.copying(), Way(), ("wrong", width, count, ("load", 0, 1, 0))), False)
        for odd in no_integers():
            for value in (("wrong", odd, 2, COPYING[3]), ("wrong", 2, odd, COPYING[3]), ("wrong", 2, 2, odd)):
                self.assertIs(accepts(Loop.copying(), Way(), value), False)

    def test_wrong_papers_with_one_thing_changed(self):
        loop, way = read("line a 1\nf a@1 a@0\ng a@2"), Way()
        for value in (paper(loop, way), ("wrong", 3, 3, ("cell", "a", 2))):
            self.assertIs(accepts(loop, way, value), True)
            for other in one_changed(value):
                told = False
                if isinstance(other, tuple) and len(other) == 4 and other[0] is value[0]:
                    # Some of these are differences that are there.
                    if all(type(one) is int and one > 0 for one in other[1:3]) and type(other[3]) is tuple:
                        if all(type(one) in (int, str) for one in other[3]):
                            told = other[3] in play_differences(loop, way, other[1], other[2])
                self.assertIs(accepts(loop, way, other), told, other)

    def test_right_papers_with_one_thing_changed(self):
        draw = random.Random(2)
        for text, share in (
                ("line a 1\nf a@0 a@0", 1), ("line a 1\ns +", 1), ("line b 1\nline a 1\nf b@0 a@0\ng a@0", 0.2),
                ("line a 1\nf a@1 a@0\ns + a@1", 0.05)):
            loop = read(text)
            way = Way.careful(loop)
            value = paper(loop, way)
            self.assertIs(accepts(loop, way, value), True)
            for other in one_changed(value):
                if draw.random() < share:
                    self.assertIs(accepts(loop, way, other), False, other)

    def test_long_right_papers_with_one_thing_changed(self):
        draw = random.Random(1)
        loop = read("line a 1\nf a@3 a@0\ng a@1 a@3")
        way = Way.careful(loop)
        word, cases = paper(loop, way)
        for _ in range(60):
            at = draw.randrange(len(cases))
            others = list(one_changed(cases[at]))
            for other in draw.sample(others, min(4, len(others))):
                value = (word, cases[:at] + (other,) + cases[at + 1:])
                self.assertIs(accepts(loop, way, value), False)
            self.assertIs(accepts(loop, way, (word, cases[:at] + cases[at + 1:])), False)
            self.assertIs(accepts(loop, way, (word, cases[:at] + cases[at:at + 1] + cases[at:])), False)
            self.assertIs(accepts(loop, way, (word, cases[:at] + (cases[at - 1],) + cases[at + 1:])), False)

    def test_a_right_paper_of_a_wrong_loop(self):
        for loop in drawn_loops(40, 75, 3, 2):
            for way in drawn_ways(loop, 3, 75):
                self.assertIs(accepts(loop, way, written(loop)), first_by_play(loop, way) is None)
        self.assertIs(accepts(Loop.copying(), Way(), written(Loop.copying())), False)
        self.assertIs(accepts(Loop.copying(), CAREFUL, written(Loop.copying())), True)

    def test_wrong_papers_of_a_right_loop(self):
        for width, count in itertools.product(range(1, 6), range(8)):
            for one in (("load", 0, 1, 0), ("load", 0, 0, 0), ("cell", "a", 1), ("cell", "a", 0), (), None):
                self.assertIs(accepts(Loop.copying(), CAREFUL, ("wrong", width, count, one)), False)

    def test_papers_of_another_loop(self):
        self.assertIs(accepts(read("line a 1\nf a@2 a@0"), CAREFUL, paper(Loop.copying(), CAREFUL)), False)
        self.assertIs(accepts(Loop.summing(), Way(), COPYING), False)
        self.assertIs(accepts(read("line b 1\nf b@1 b@0"), CAREFUL, paper(Loop.copying(), CAREFUL)), False)

    def test_any_object(self):
        words = [("wrong",), ("right",), ("right", (), ()), ("wrong", 2, 2), ("Wrong", *COPYING[1:]), ("right", []), "right",
                 ("right", None), list(COPYING), (*COPYING, 0), ("wrong", 2, 2, list(COPYING[3])), (EqualToAll(), *COPYING[1:])]
        for value in words + odd_objects() + own_objects() + [0, 1, GREAT]:
            for way in (Way(), CAREFUL):
                self.assertIs(accepts(Loop.copying(), way, value), False)
                self.assertIs(accepts(Loop.copying(), way, ("right", value)), False)
                self.assertIs(accepts(Loop.copying(), way, ("right", (value,) * 21)), False)


if __name__ == "__main__":
    unittest.main()
