"""Point [20]: overlaps and forms."""

import random
import unittest

from tests.samples import drawn_ways
from tests.support import GREAT, Case, no_integers, odd_objects, own_objects
from vectorwidths.errors import InvalidBundles, InvalidLine, InvalidName, InvalidNumber
from vectorwidths.lines import Line
from vectorwidths.loops import Loop
from vectorwidths.overlaps import Form, overlapped, width_form
from vectorwidths.statements import Statement
from vectorwidths.texts import read, write
from vectorwidths.ways import Way
from vectorwidths.widths import greatest_safe

THREE = 'line a 1\nline b 1\nline c 1\nf b@2 a@0 c@9\ng c@-9 b@-3 a@9\nh + b@0 c@0'
UNLIKE = 'line a 1\nline b 2\nline c 1\nf b@2 a@0\ng c@-9 b@-3'


def drawn_pairs(many, seed):
    """So many loops on the lines a and b, and sometimes c."""
    draw = random.Random(seed)
    for _ in range(many):
        names = "abc"[:draw.randint(2, 3)]
        statements = []
        for at in range(draw.randint(1, 3)):
            refs = [(draw.choice(names), draw.choice((-4, -1, 0, 0, 1, 3, 9))) for _ in range(draw.randint(1, 4))]
            statements.append(Statement("fgh"[at], None if draw.random() < 0.1 else refs[0], *refs[1:]))
        yield Loop([Line(name) for name in names], *statements)


class Overlapped(Case):
    def test_told(self):
        loop = read(THREE)
        self.assertEqual(
            write(overlapped(loop, "a", "b", 4)), 'line a 1\nline c 1\nf a@6 a@0 c@9\ng c@-9 a@1 a@9\nh + a@4 c@0')
        self.assertEqual(
            write(overlapped(loop, "b", "a", -9)), 'line b 1\nline c 1\nf b@2 b@-9 c@9\ng c@-9 b@-3 b@0\nh + b@0 c@0')
        self.assertEqual(
            write(overlapped(loop, "a", "c", 0)), 'line a 1\nline b 1\nf b@2 a@0 a@9\ng a@-9 b@-3 a@9\nh + b@0 a@0')
        self.assertEqual(loop, read(THREE))
        self.assertEqual(write(overlapped(read(UNLIKE), "c", "a", 9)), 'line b 2\nline c 1\nf b@2 c@9\ng c@-9 b@-3')
        self.assertEqual(overlapped(shift=0, second="b", first="a", loop=loop), overlapped(loop, "a", "b", 0))

    def test_a_cell_of_the_second_line_is_one_of_the_first(self):
        for loop in drawn_pairs(40, 5):
            for shift in range(-9, 10):
                try:
                    new = overlapped(loop, "a", "b", shift)
                except InvalidNumber:
                    continue
                for one, other in zip(loop.statements, new.statements):
                    for ref, moved in zip([one.target, *one.sources], [other.target, *other.sources]):
                        if ref is not None and ref[0] == "b":
                            x = loop.cell(ref, 3)[1]
                            self.assertEqual(new.cell(moved, 3), ("a", x + shift))
                        else:
                            self.assertEqual(moved, ref)

    def test_shifts_that_leave_the_bounds(self):
        loop = read(THREE)
        for shift in (-6, 0, 7):
            self.assertEqual(len(overlapped(loop, "a", "b", shift)), 3)
        for wrong in [-7, 8, GREAT, -GREAT] + no_integers():
            self.refuses(InvalidNumber, wrong, overlapped, loop, "a", "b", wrong)
        for wrong in [-1, 1] + no_integers():
            self.refuses(InvalidNumber, wrong, overlapped, loop, "a", "c", wrong)

    def test_a_line_without_refs(self):
        loop = read('line a 1\nline b 1\nf a@0')
        for shift in (0, 9, -50, GREAT):
            self.assertEqual(overlapped(loop, "a", "b", shift), read('line a 1\nf a@0'))
        for wrong in no_integers():
            self.refuses(InvalidNumber, wrong, overlapped, loop, "a", "b", wrong)

    def test_errors_in_order(self):
        loop = read(UNLIKE)
        for wrong in ["x", "ab", GREAT, 0, -1] + odd_objects() + own_objects():
            self.refuses(InvalidName, wrong, overlapped, loop, wrong, None, None)
            self.refuses(InvalidName, wrong, overlapped, loop, "a", wrong, None)
        self.refuses(InvalidName, "a", overlapped, loop, "a", "a", None)
        self.refuses(InvalidLine, "b", overlapped, loop, "a", "b", None)
        self.refuses(InvalidLine, "a", overlapped, loop, "b", "a", 0)
        self.refuses(InvalidNumber, True, overlapped, loop, "a", "c", True)


class Forms(Case):
    def test_reading(self):
        form = Form({3: 2, -1: None, 0: 0, GREAT: GREAT})
        self.assertEqual([form[3], form[-1], form[0], form[GREAT]], [2, None, 0, GREAT])
        self.assertEqual([len(form), len(Form({}))], [4, 0])
        self.assertEqual(form.shifts(), [-1, 0, 3, GREAT])
        self.assertEqual(Form({}).shifts(), [])
        form.shifts().clear()
        self.assertEqual(len(form.shifts()), 4)
        self.assertEqual(Form(values={1: 1})[1], 1)
        self.cannot_be_iterated(form)
        self.cannot_be_iterated(Form({}))

    def test_shifts_that_are_not_told(self):
        form = Form({0: 5, 1: None})
        for wrong in [2, -1, GREAT] + no_integers():
            self.refuses(InvalidNumber, wrong, lambda: form[wrong])
            self.assertIs(wrong in form, False)
        for shift in (0, 1):
            self.assertIs(shift in form, True)
        self.assertIs(0 in Form({}), False)

    def test_wrong_dicts(self):
        for wrong in [
                [(0, 1)], {True: 1}, {0: True}, {0: False}, {0: -1}, {"0": 1}, {0: "1"}, {None: None}, {0: []}, {(0,): 1},
                {0: 1, 1: -1}, {0: 1, False + 2.5: 1}, {0: None, 1: ()}, [], (), None, {0}, ((0, 1),), {0: Form({})},
                {0: -GREAT}]:
            self.refuses(InvalidNumber, wrong, Form, wrong)
        for wrong in [odd for odd in odd_objects() + own_objects() if not isinstance(odd, dict) or odd]:
            self.refuses(InvalidNumber, wrong, Form, wrong)

    def test_a_dict_that_is_changed_afterwards(self):
        told = {0: 1, 2: 3}
        form = Form(told)
        told[0] = 9
        told[5] = 5
        self.assertEqual([form[0], len(form), 5 in form], [1, 2, False])

    def test_both(self):
        one = Form({0: 4, 1: None, 2: None, 3: 7, 4: 0, 9: 1})
        other = Form({4: 5, 3: 2, 2: None, 1: 3, 0: None, -2: 8})
        for both in (one & other, other & one):
            self.assertEqual(both, Form({0: 4, 1: 3, 2: None, 3: 2, 4: 0}))
            self.assertEqual(both.shifts(), [0, 1, 2, 3, 4])
        self.assertEqual(one & Form({}), Form({}))
        self.assertEqual(one & one, one)
        self.assertEqual([len(one), len(other)], [6, 6])
        self.assertIs((one & other).__class__, Form)

    def test_is_under(self):
        cases = [
            ({}, {}, True), ({}, {0: 1}, True), ({0: 1}, {}, False), ({0: 1}, {0: 1}, True), ({0: 1}, {0: 2}, True),
            ({0: 2}, {0: 1}, False), ({0: None}, {0: None}, True), ({0: None}, {0: GREAT}, False), ({0: GREAT}, {0: None}, True),
            ({0: 1, 1: 1}, {0: 1}, False), ({0: 1}, {0: 1, 1: 0}, True), ({0: 1, 1: 2}, {1: 1, 0: 1}, False), ({0: 0}, {0: 0}, True),
            ({1: 0}, {0: 0}, False)]
        for one, other, wanted in cases:
            self.assertIs(Form(one).is_under(Form(other)), wanted)
            self.assertIs(Form(one).is_under(other=Form(other)), wanted)

    def test_equality(self):
        self.equal(Form({0: 1, 1: None}), Form({1: None, 0: 1}))
        self.equal(Form({}), Form({}))
        for other in [Form({}), Form({0: 1}), Form({0: 1, 1: 0}), Form({0: 1, 1: None, 2: 2}), Form({0: 2, 1: None})]:
            self.unequal(Form({0: 1, 1: None}), other)
        for other in odd_objects() + own_objects() + [{}]:
            self.unequal(Form({}), other)

    def test_test(self):
        form = Form({3: 2, -1: None, 0: 0, 1: 1, 2: 9})
        self.assertEqual([form.test(width) for width in (1, 2, 3, 9, 10, GREAT)], [
            (-1, 1, 2, 3), (-1, 2, 3), (-1, 2), (-1, 2), (-1,), (-1,)])
        self.assertEqual(Form({}).test(1), ())
        self.assertEqual(Form({0: GREAT}).test(width=GREAT), (0,))
        for wrong in [0, -1, -GREAT] + no_integers():
            self.refuses(InvalidNumber, wrong, form.test, wrong)


class WidthForms(Case):
    def test_against_each_overlapped_loop(self):
        for number, loop in enumerate(drawn_pairs(30, 9)):
            for way in drawn_ways(loop, 1, number):
                wanted = {}
                for shift in range(-9, 10):
                    offsets = [ref[1] + shift for one in loop.statements
                               for ref in [one.target, *one.sources] if ref is not None and ref[0] == "b"]
                    if all(-9 <= offset <= 9 for offset in offsets):
                        wanted[shift] = greatest_safe(overlapped(loop, "a", "b", shift), way)
                form = width_form(loop, way, "a", "b")
                self.assertEqual({shift: form[shift] for shift in form.shifts()}, wanted)
                self.assertEqual(form.shifts(), sorted(wanted))

    def test_told(self):
        loop = read('line a 1\nline b 1\nf b@0 a@0')
        form = width_form(loop, Way(), "a", "b")
        self.assertEqual(form, Form({shift: shift if shift > 0 else None for shift in range(-9, 10)}))
        form = width_form(way=Way(bundles=((0, 0),)), second="a", first="b", loop=loop)
        self.assertEqual(form, Form({shift: None for shift in range(-9, 10)}))
        form = width_form(read('line a 1\nline b 1\nf b@7 a@0 b@-8'), Way(), "a", "b")
        self.assertEqual(form, Form({-1: 6, 0: 7, 1: 8, 2: 9}))
        form = width_form(read('line a 2\nline b 2\nf b@0 a@0'), Way(), "a", "b")
        self.assertEqual(form, Form({shift: shift // 2 if shift > 0 and shift % 2 == 0 else None for shift in range(-9, 10)}))
        self.assertEqual(width_form(read('line a 1\nline b 1\nf a@0 b@9 b@-9'), Way(), "a", "b"), Form({0: 9}))

    def test_errors_in_order(self):
        loop, way = read(UNLIKE), Way(bundles=((2, 2),))
        self.refuses(InvalidBundles, way, width_form, loop, way, None, None)
        for wrong in ["x", 0] + odd_objects() + own_objects():
            self.refuses(InvalidName, wrong, width_form, loop, Way(), wrong, None)
            self.refuses(InvalidName, wrong, width_form, loop, Way(), "a", wrong)
        self.refuses(InvalidName, "a", width_form, loop, Way(), "a", "a")
        self.refuses(InvalidLine, "b", width_form, loop, Way(), "a", "b")

    def test_great_loops(self):
        refs = [("a", 9), ("b", 0), ("c", 0)]
        statements = [Statement(name, ("abc"[at % 3], 0 if at == 1 or at == 4 else 9), *refs) for at, name in enumerate("fghij")]
        loop = Loop([Line("a"), Line("b"), Line("c")], *statements)
        form = width_form(loop, Way(), "a", "b")
        self.assertEqual(len(form), 19)
        for shift in (-9, 0, 9):
            self.assertEqual(form[shift], greatest_safe(overlapped(loop, "a", "b", shift), Way()))


if __name__ == "__main__":
    unittest.main()
