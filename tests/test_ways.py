"""Point [8]: ways."""

import unittest

from tests.support import GREAT, Case, no_integers, odd_objects, own_objects
from vectorwidths.errors import InvalidName, InvalidPart
from vectorwidths.lines import Line
from vectorwidths.loops import Loop
from vectorwidths.statements import Statement
from vectorwidths.ways import PARTS, Way

USUAL = {"tail": "mask", "ahead": 0, "guard": True, "bundles": (), "joining": "row"}
ALLOWED = {
    "tail": ["mask", "rest", "whole"], "ahead": [0, 1, 2, 3], "guard": [True, False],
    "bundles": [
        (), ((0, 0),), ((4, 4),), ((0, 4),), ((0, 0), (1, 1)), ((0, 1), (2, 4)), ((1, 2), (4, 4)),
        ((0, 0), (1, 1), (2, 2), (3, 3), (4, 4))],
    "joining": ["row", "parts", "tree"],
}
ODD_BUNDLES = [
    [], [(0, 0)], ([0, 0],), (0, 0), ((0, 0), [1, 1]), ((0,),), ((0, 0, 0),), ((),), (None,), ("ab",), ((0, "0"),),
    ((True, 1),), ((0, True),), ((False, 0),), ((0, False),), ((0, 1), (True, 2)), ((1, 0),), ((0, 1), (1, 2)),
    ((0, 2), (1, 1)), ((1, 1), (0, 0)), ((0, 0), (0, 0)), ((2, 3), (0, 1)), ((0, 0), (2, 1)), ((0, 5),), ((5, 5),),
    ((-1, 0),), ((-1, -1),), ((0, GREAT),), ((0, 0), (1, 1), (2, 2), (3, 3), (4, 4), (5, 5)),
    ((0, 0), (1, 1), (2, 2), (3, 3), (4, 4), (4, 4)), ((0, 0),) * 6, {}, {(0, 0): 1}, "", 0, None, True]


def wrong_values(part):
    """Values that a part may not have."""
    odd = [one for one in odd_objects() + own_objects() if one not in ([True, False] if part == "guard" else [])
           and not (part == "bundles" and one == ())]
    return {
        "tail": ["row", "Mask", "mask ", "", 0, ["mask"], ("mask",)],
        "ahead": [4, -1, GREAT, -GREAT, "0", (0,), [0]] + no_integers(),
        "guard": [1, 0, "True", None, (True,), -1],
        "bundles": ODD_BUNDLES,
        "joining": ["mask", "Row", "rows", "", 0, ["row"], ("row",)],
    }[part] + odd


def all_odd_words():
    """What is no name of a part."""
    return ["", "Tail", "tails", "kept", "value", "mask", 0, 1, GREAT, ["tail"], ("tail",)] + odd_objects() + own_objects()


class Making(Case):
    def test_parts(self):
        self.assertEqual(PARTS, ("tail", "ahead", "guard", "bundles", "joining"))

    def test_the_usual_way(self):
        way = Way()
        for part in PARTS:
            self.assertEqual([way[part], getattr(way, part)], [USUAL[part], USUAL[part]])
            self.assertIs(way[part].__class__, USUAL[part].__class__)

    def test_only_by_name(self):
        with self.assertRaises(TypeError):
            Way("mask")

    def test_each_value(self):
        for part in PARTS:
            for value in ALLOWED[part]:
                made = Way(**{part: value})
                self.assertEqual({name: made[name] for name in PARTS}, {**USUAL, part: value})

    def test_wrong_values(self):
        for part in PARTS:
            for value in wrong_values(part):
                with self.subTest(part=part):
                    with self.assertRaises(InvalidPart) as caught:
                        Way(**{part: value})
                    self.assertEqual(caught.exception.value, part)

    def test_the_first_wrong_part(self):
        for at, part in enumerate(PARTS):
            wrong = {name: None for name in PARTS[at:]}
            for given in (wrong, dict(reversed(list(wrong.items())))):
                with self.assertRaises(InvalidPart) as caught:
                    Way(**given)
                self.assertEqual(caught.exception.value, part)


class Changing(Case):
    def assigned(self, way, part, value):
        """Assigns by the property."""
        setattr(way, part, value)

    def by_item(self, way, part, value):
        """Assigns by the item."""
        way[part] = value

    def by_change(self, way, part, value):
        """Assigns by the method."""
        self.assertIs(way.change(part, value), way)

    def test_each_value(self):
        for assign in (self.assigned, self.by_item, self.by_change):
            for part in PARTS:
                for value in ALLOWED[part]:
                    way = Way()
                    assign(way, part, value)
                    self.assertEqual([way[part], getattr(way, part)], [value, value])
                    self.equal(way, Way(**{part: value}))

    def test_refused_values_leave_the_way_as_it_was(self):
        for assign in (self.assigned, self.by_item, self.by_change):
            for part in PARTS:
                way = Way(**{part: ALLOWED[part][1]})
                for value in wrong_values(part):
                    with self.assertRaises(InvalidPart) as caught:
                        assign(way, part, value)
                    self.assertIs(caught.exception.__class__, InvalidPart)
                    self.assertEqual(caught.exception.value, part)
                    self.equal(way, Way(**{part: ALLOWED[part][1]}))

    def test_words_that_are_no_parts(self):
        way = Way(tail="rest")
        for odd in all_odd_words():
            self.refuses(InvalidName, odd, lambda: way[odd])
            self.refuses(InvalidName, odd, way.change, odd, "rest")
            self.refuses(InvalidName, odd, way.change, part=odd, value=[])
            self.refuses(InvalidName, odd, self.by_item, way, odd, "rest")
            self.assertIs(odd in way, False)
        self.equal(way, Way(tail="rest"))

    def test_in(self):
        for part in PARTS:
            self.assertIs(part in Way(), True)

    def test_change_by_name(self):
        way = Way()
        self.assertIs(way.change(value="rest", part="tail"), way)
        self.assertEqual(way.change("ahead", 2).change("guard", False).tail, "rest")

    def test_cannot_be_iterated(self):
        self.cannot_be_iterated(Way())


class Twins(Case):
    def test_a_twin_goes_its_own_way(self):
        way = Way(tail="whole", ahead=3, guard=False, bundles=((0, 1),), joining="tree")
        twin = way.twin()
        self.assertIsNot(twin, way)
        self.equal(twin, way)
        for part in PARTS:
            twin = way.twin()
            twin[part] = USUAL[part]
            self.unequal(twin, way)
            self.assertNotEqual(way[part], USUAL[part])
        way.tail = "rest"
        self.assertEqual(twin.tail, "whole")

    def test_equality(self):
        self.equal(Way(), Way(tail="mask", ahead=0, guard=True, bundles=(), joining="row"))
        for part in PARTS:
            for one in ALLOWED[part]:
                for other in ALLOWED[part]:
                    check = self.equal if one == other else self.unequal
                    check(Way(**{part: one}), Way(**{part: other}))
        for other in odd_objects() + [USUAL, tuple(USUAL.values()), "mask", Loop.copying()]:
            self.unequal(Way(), other)


class Going(Case):
    def test_goes_with(self):
        for many in range(1, 6):
            loop = Loop([Line("a")], *[Statement(name) for name in "fghij"[:many]])
            self.assertIs(Way().goes_with(loop), True)
            for last in range(5):
                self.assertIs(Way(bundles=((last, last),)).goes_with(loop=loop), last < many)
                self.assertIs(Way(bundles=((0, last),)).goes_with(loop), last < many)
            self.assertIs(Way(bundles=((0, 0), (1, 3))).goes_with(loop), many > 3)

    def test_careful(self):
        for many in range(1, 6):
            loop = Loop([Line("a")], *[Statement(name) for name in "fghij"[:many]])
            self.equal(Way.careful(loop), Way(bundles=((0, many - 1),)))
            self.assertIs(Way.careful(loop=loop).goes_with(loop), True)


if __name__ == "__main__":
    unittest.main()
