"""Point [19]: edits of a loop and a way, and the least changes that make it safe."""

import itertools
import random
import unittest

from tests.samples import ALL_BUNDLES, drawn_loops, drawn_ways
from tests.support import GREAT, Case, EqualToAll, odd_objects, own_objects
from vectorwidths.alike import are_alike
from vectorwidths.changes import edited, least_changes
from vectorwidths.errors import InvalidEdit
from vectorwidths.loops import Loop
from vectorwidths.texts import read
from vectorwidths.ways import Way
from vectorwidths.widths import is_safe

THREE = "line a 1\nline b 1\nf a@0 b@0\ng b@1\ns + a@0"
USUAL = {"tail": "mask", "ahead": 0, "guard": True, "bundles": (), "joining": "row"}


def no_edits(loop):
    """What is no edit of a loop of three statements f, g, s."""
    wrong = [
        ("tail", "row"), ("tail", "Mask"), ("tail", True), ("tail", None), ("ahead", 4), ("ahead", -1), ("ahead", True),
        ("ahead", "1"), ("ahead", GREAT), ("guard", 1), ("guard", 0), ("guard", "yes"), ("guard", None),
        ("bundles", ((0, 3),)), ("bundles", ((3, 3),)), ("bundles", ((1, 0),)), ("bundles", [(0, 0)]), ("bundles", ([0, 0],)),
        ("bundles", ((0, True),)), ("bundles", ((0, 1), (1, 2))), ("bundles", None), ("order", ("f", "g")), ("order", ()),
        ("order", ("f", "g", "s", "s")), ("order", ("f", "g", "g")), ("order", ["f", "g", "s"]), ("order", ("f", "g", "t")),
        ("order", "fgs"), ("order", (0, 1, 2)), ("order", ("f", "g", None)), ("order", ("f", "g", EqualToAll())),
        ("order", ("f", "g", [])), ("order", None), ("joining", "row"), ("joining", "tree"), ("Tail", "mask"), ("tail ", "mask"),
        ("", "mask"), ("tail",), ("tail", "mask", 0), ("ahead", 0, 1), ["tail", "mask"], ["order", ("f", "g", "s")], ("order",),
        ("order", "f", "g", "s"), (0, "mask"), (True, True), (EqualToAll(), "mask"), (["tail"], "mask"), (None, None)]
    wrong += [(word, odd) for word in ("tail", "ahead", "order") for odd in odd_objects() + own_objects()]
    wrong += [("bundles", odd) for odd in odd_objects() if odd.__class__ is not tuple or len(odd) > 0]
    wrong += [("guard", odd) for odd in odd_objects() if odd is not True and odd is not False]
    return wrong + odd_objects() + own_objects() + [0, "tail", loop]


def drawn_edit(draw, loop):
    """An edit of a loop of up to three statements."""
    word = draw.choice(("tail", "ahead", "guard", "bundles", "order", "order", "bundles"))
    values = {
        "tail": ("mask", "rest", "whole"), "ahead": (0, 1, 2, 3), "guard": (True, False), "bundles": ALL_BUNDLES[len(loop)],
        "order": list(itertools.permutations([statement.name for statement in loop.statements]))}
    return (word, draw.choice(values[word]))


def apply(loop, way, edits):
    """The loop and the way behind the edits, made anew from all parts."""
    parts = {part: way[part] for part in USUAL}
    for word, value in edits:
        if word == "order":
            loop = Loop(loop.lines, *[loop[name] for name in value])
        else:
            parts[word] = value
    return loop, Way(**parts)


def least_by_all_sets(loop, way, menu):
    """All sets of edits gone through."""
    found = []
    for many in range(len(menu) + 1):
        for places in itertools.combinations(range(len(menu)), many):
            edits = tuple(menu[at] for at in places)
            if len({word for word, value in edits}) == many:
                other, kept = apply(loop, way, edits)
                if are_alike(other, loop) and is_safe(other, kept):
                    found.append(set(places))
    least = [places for places in found if not any(other < places for other in found)]
    return [tuple(menu[at] for at in sorted(places)) for places in least]


class Edited(Case):
    def test_each_word(self):
        loop = read(THREE)
        for word, value in (("tail", "rest"), ("ahead", 3), ("guard", False), ("bundles", ((0, 0), (2, 2)))):
            other, way = edited(loop, Way(), [(word, value)])
            self.equal(other, loop)
            self.equal(way, Way(**{word: value}))
        other, way = edited(loop, Way(joining="tree"), (("order", ("s", "f", "g")),))
        self.equal(other, loop.in_order("s", "f", "g"))
        self.equal(way, Way(joining="tree"))

    def test_one_after_the_other(self):
        loop = read(THREE)
        edits = [
            ("order", ("s", "f", "g")), ("ahead", 1), ("order", ("g", "s", "f")), ("tail", "whole"), ("tail", "rest"),
            ("bundles", ((0, 2),)), ("bundles", ((2, 2),))]
        for value in (edits, tuple(edits)):
            other, way = edited(loop, Way(joining="parts"), value)
            self.equal(other, loop.in_order("g", "s", "f"))
            self.equal(way, Way(joining="parts", ahead=1, tail="rest", bundles=((2, 2),)))
        self.assertEqual(len(edits), 7)

    def test_results(self):
        loop, way = read(THREE), Way(bundles=((0, 1),))
        told = edited(edits=(), way=way, loop=loop)
        self.assertIs(told.__class__, tuple)
        self.assertEqual(len(told), 2)
        self.equal(told[0], loop)
        self.equal(told[1], way)
        told[1].ahead = 3
        self.equal(way, Way(bundles=((0, 1),)))
        # Bundles keep their numbers.
        self.equal(edited(loop, way, [("order", ("g", "s", "f"))])[1], way)

    def test_what_is_handed_in_stays(self):
        loop, way, edits = read(THREE), Way(), [("ahead", 2), ("order", ("s", "g", "f"))]
        edited(loop, way, edits)
        self.equal(loop, read(THREE))
        self.equal(way, Way())
        self.assertEqual(edits, [("ahead", 2), ("order", ("s", "g", "f"))])

    def test_no_lists(self):
        for wrong in odd_objects() + own_objects() + [0, "ab", {("ahead", 1): 2}, {("ahead", 1)}, iter([("ahead", 1)])]:
            if wrong.__class__ not in (list, tuple):
                self.refuses(InvalidEdit, wrong, edited, Loop.copying(), Way(), wrong)

    def test_the_first_that_is_no_edit(self):
        loop, way = read(THREE), Way(tail="rest")
        for wrong in no_edits(loop):
            self.refuses(InvalidEdit, wrong, edited, loop, way, [wrong])
            self.refuses(InvalidEdit, wrong, edited, loop, way, (("tail", "mask"), wrong, ("ahead", 9), None))
            self.equal(way, Way(tail="rest"))

    def test_an_edit_alone_is_no_list_of_edits(self):
        self.refuses(InvalidEdit, "ahead", edited, Loop.copying(), Way(), ("ahead", 1))

    def test_against_all_parts(self):
        draw = random.Random(4)
        for number, loop in enumerate(drawn_loops(60, 5)):
            for way in drawn_ways(loop, 2, number):
                edits = [drawn_edit(draw, loop) for _ in range(draw.randint(0, 9))]
                other, kept = edited(loop, way, edits)
                self.assertEqual((other, kept), apply(loop, way, edits))


class LeastChanges(Case):
    def test_against_all_sets(self):
        draw = random.Random(6)
        many = []
        for number, loop in enumerate(drawn_loops(120, 7, 3, 2)):
            whole = (0, len(loop) - 1)
            for way in [*drawn_ways(loop, 1, number), Way(tail="whole"), Way(ahead=2), Way(tail="whole", ahead=1)]:
                menu = draw.choice(([], [("tail", "mask")], [("bundles", (whole,)), ("tail", "rest")], [("ahead", 0)]))
                while len(menu) < 1 + number % 6:
                    edit = drawn_edit(draw, loop)
                    if edit not in menu:
                        menu.append(edit)
                    elif len(loop) == 1 and len(menu) > 3:
                        break
                found = least_changes(loop, way, menu)
                self.assertEqual(found, least_by_all_sets(loop, way, menu))
                self.assertEqual(least_changes(loop, way, tuple(menu)), found)
                many.append((len(found), max([len(edits) for edits in found] + [0])))
        self.assertGreater(len([found for found, most in many if most > 1]), 5)
        self.assertGreater(len([found for found, most in many if found > 1]), 5)
        self.assertGreater(len([found for found, most in many if found == 0]), 5)

    def test_told(self):
        loop = Loop.copying()
        self.assertEqual(least_changes(loop, Way(), [("ahead", 1), ("bundles", ((0, 0),))]), [(("bundles", ((0, 0),)),)])
        self.assertEqual(least_changes(menu=[], way=Way(), loop=loop), [])
        self.assertEqual(least_changes(loop, Way(bundles=((0, 0),)), []), [()])
        menu = [("ahead", 1), ("bundles", ((0, 0),)), ("tail", "rest"), ("guard", False), ("ahead", 2), ("order", ("f",))]
        self.assertEqual(least_changes(loop, Way(bundles=((0, 0),)), menu), [()])
        self.assertEqual(least_changes(loop, Way(tail="whole"), menu), [(menu[1], menu[2])])
        # The words are those of the menu, in its order.
        menu = [menu[2], menu[0], menu[1]]
        self.assertEqual(least_changes(loop, Way(tail="whole"), menu), [(menu[0], menu[2])])

    def test_fewer_edits_first(self):
        loop = read("line a 1\nline b 1\nf a@0 b@0\ng b@1\n" + "h a@0")
        menu = [("tail", "rest"), ("order", ("g", "f", "h")), ("tail", "mask"), ("bundles", ((0, 1),)), ("bundles", ((0, 2),)),
                ("order", ("f", "g", "h"))]
        found = least_changes(loop, Way(), menu)
        self.assertEqual(found, [(menu[1],), (menu[3],), (menu[4],)])
        found = least_changes(loop, Way(tail="whole"), menu)
        self.assertEqual(found, [
            (menu[0], menu[1]), (menu[0], menu[3]), (menu[0], menu[4]), (menu[1], menu[2]), (menu[2], menu[3]),
            (menu[2], menu[4])])

    def test_orders_that_are_not_alike_do_not_serve(self):
        loop = read("line a 1\nf a@0 a@1\ng a@1")
        self.assertEqual([is_safe(loop, Way()), is_safe(loop.in_order("g", "f"), Way())], [False, True])
        self.assertEqual(least_changes(loop, Way(), [("order", ("g", "f"))]), [])
        loop = read("line a 1\nf a@0\ns + a@0")
        self.assertEqual(least_changes(loop, Way(), [("order", ("s", "f"))]), [()])
        loop = read("line a 1\nf a@0\ns + a@0\ng a@1 a@0")
        self.assertEqual(least_changes(loop, Way(), [("order", ("s", "g", "f"))]), [])

    def test_menus(self):
        loop, way = Loop.copying(), Way()
        six = [("ahead", at) for at in range(4)] + [("tail", "rest"), ("tail", "whole")]
        self.assertEqual(least_changes(loop, way, six), [])
        for seven in (six + [("guard", True)], tuple(six + [("guard", True)]), six + six[:1], [None] * 7, [0] * 2000):
            self.refuses(InvalidEdit, seven, least_changes, loop, way, seven)
        for wrong in odd_objects() + own_objects() + [0, "ab", {("ahead", 1): 2}]:
            if wrong.__class__ not in (list, tuple):
                self.refuses(InvalidEdit, wrong, least_changes, loop, way, wrong)

    def test_twice(self):
        loop = read(THREE)
        for edit in (("ahead", 1), ("order", ("s", "f", "g")), ("bundles", ((0, 1),)), ("guard", True)):
            again = tuple(list(edit))
            self.refuses(InvalidEdit, again, least_changes, loop, Way(), [edit, again])
            self.refuses(InvalidEdit, again, least_changes, loop, Way(), (("tail", "rest"), edit, ("ahead", 2), again, None))
        self.assertEqual(least_changes(loop, Way(bundles=((0, 2),)), [("ahead", 1), ("guard", True), ("ahead", 0)]), [()])

    def test_no_edits(self):
        loop = read(THREE)
        for wrong in no_edits(loop):
            self.refuses(InvalidEdit, wrong, least_changes, loop, Way(), [wrong])
            self.refuses(InvalidEdit, wrong, least_changes, loop, Way(), (("tail", "rest"), wrong, ("tail", "rest")))
            self.refuses(InvalidEdit, wrong, least_changes, loop, Way(), [("ahead", 1), wrong, wrong, None])

    def test_what_is_handed_in_stays(self):
        loop, way, menu = read(THREE), Way(), [("ahead", 1), ("bundles", ((0, 2),))]
        least_changes(loop, way, menu).append(None)
        self.equal(loop, read(THREE))
        self.equal(way, Way())
        self.assertEqual(menu, [("ahead", 1), ("bundles", ((0, 2),))])
        self.assertNotIn(None, least_changes(loop, way, menu))


if __name__ == "__main__":
    unittest.main()
