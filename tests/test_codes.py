"""Point [17]: codes."""

import unittest

from tests.samples import ALL_BUNDLES, drawn_loops
from tests.support import GREAT, Case, EqualToAll, no_integers, odd_objects, own_objects
from vectorwidths.codes import compiled, is_code
from vectorwidths.errors import InvalidBundles
from vectorwidths.loops import Loop
from vectorwidths.texts import read

LOAD = ("load", 0, "a", 0)
CALL = ("call", 9, "f", 0)
STORE = ("store", "a", 1, 9)
ADD = ("add", "s", 9)
SINGLES = (LOAD, CALL, STORE, ADD)
WRONG_REGISTERS = [10, -1, GREAT, -GREAT] + no_integers()
WRONG_OFFSETS = [10, -10, GREAT] + no_integers()
WRONG_NAMES = [0, 1] + odd_objects() + own_objects()


class Codes(Case):
    def good(self, *orders):
        """These orders are a code, as a list and as a tuple, also in an order `lane`."""
        for value in (list(orders), orders):
            self.assertIs(is_code(value), True, value)
        if all(order[0] != "lane" for order in orders):
            self.assertIs(is_code([("lane", orders)]), True, orders)

    def bad(self, *orders):
        """These orders are no code."""
        for value in (list(orders), orders, [("lane", orders)]):
            self.assertIs(is_code(value), False, value)

    def test_each_kind(self):
        self.good()
        self.good(*SINGLES)
        for order in SINGLES:
            self.good(order)
        for at in range(4):
            for wrong in odd_objects() + own_objects() + [SINGLES[at], list(SINGLES[at]), [SINGLES[at]], (SINGLES[at],)]:
                if wrong not in SINGLES:
                    self.bad(*SINGLES[:at], wrong, *SINGLES[at + 1:])

    def test_by_name(self):
        self.assertIs(is_code(value=[LOAD]), True)

    def test_registers(self):
        for good in (0, 5, 9):
            self.good(("load", good, "a", 0), ("call", good, "f", good, good), ("store", "a", 0, good), ("add", "s", good))
        for wrong in WRONG_REGISTERS:
            self.bad(("load", wrong, "a", 0))
            self.bad(("call", wrong, "f"))
            self.bad(("call", 0, "f", wrong))
            self.bad(("call", 0, "f", 0, 1, wrong))
            self.bad(("store", "a", 0, wrong))
            self.bad(("add", "s", wrong))

    def test_offsets(self):
        for good in (-9, 0, 9):
            self.good(("load", 0, "a", good), ("store", "a", good, 0))
        for wrong in WRONG_OFFSETS:
            self.bad(("load", 0, "a", wrong))
            self.bad(("store", "a", wrong, 0))

    def test_names(self):
        for good in ("a", "abcdefgh", "lane", "load"):
            self.good(("load", 0, good, 0), ("store", good, 0, 0), ("call", 0, good), ("add", good, 0))
        for wrong in WRONG_NAMES:
            self.bad(("load", 0, wrong, 0))
            self.bad(("store", wrong, 0, 0))
            self.bad(("call", 0, wrong))
            self.bad(("add", wrong, 0))

    def test_words(self):
        for wrong in odd_objects() + own_objects() + ["touch", "Load", "load ", "lanes", 0, EqualToAll()]:
            self.bad((wrong, 0, "a", 0))
            self.bad((wrong, "a", 0, 0))
            self.bad((wrong, "a", 0))
            self.bad((wrong, ()))

    def test_numbers_of_items(self):
        for many in range(4):
            self.good(("call", 0, "f", *range(many)))
        for wrong in (
                ("call", 0, "f", 0, 1, 2, 3), ("call", 0), ("call",), (), ("load", 0, "a"), ("load", 0, "a", 0, 0), ("load",),
                ("store", "a", 0), ("store", "a", 0, 0, 0), ("store",), ("add", "s"), ("add", "s", 0, 0), ("add",),
                ("load", 0, ("a", 0)), ("store", ("a", 0), 0), ("call", 0, "f", (0, 1)), ("call", 0, "f", ())):
            self.bad(wrong)

    def test_lanes(self):
        self.good(("lane", ()))
        self.good(LOAD, ("lane", (LOAD,)), CALL, ("lane", SINGLES), ("lane", ()))
        self.bad(("lane", (("lane", ()),)))
        self.bad(("lane", (LOAD, ("lane", (LOAD,)))))
        for wrong in (("lane",), ("lane", (), ()), ("lane", LOAD), ("lane", LOAD, CALL), ("lane", [LOAD]), ("lane", []),
                      ("lane", (list(LOAD),)), ["lane", (LOAD,)], ("lane", ([LOAD],)), ("lane", ((LOAD,),))):
            self.bad(wrong)
        for wrong in odd_objects() + own_objects():
            if wrong != ():
                self.bad(("lane", wrong))

    def test_lists_inside(self):
        for order in SINGLES:
            self.bad(list(order))
            self.bad(LOAD, list(order))

    def test_numbers_of_orders(self):
        for code, many in (
                ([LOAD] * 60, 60), ([LOAD] * 61, 61), ([("lane", (LOAD,) * 59)], 60), ([("lane", (LOAD,) * 60)], 61),
                ([("lane", ())] * 60, 60), ([("lane", ())] * 61, 61), ([("lane", SINGLES)] * 12, 60),
                ([("lane", SINGLES)] * 12 + [ADD], 61), ([LOAD] * 30 + [("lane", (LOAD,) * 29)], 60),
                ([LOAD] * 30 + [("lane", (LOAD,) * 30)], 61), ([LOAD] * 2000, 2000), ([("lane", (LOAD,) * 2000)], 2001)):
            self.assertIs(is_code(code), many <= 60, many)
            self.assertIs(is_code(tuple(code)), many <= 60, many)

    def test_other_objects(self):
        for value in [0, 1, "a", SINGLES[0], ("lane", ()), {LOAD: 1}, {LOAD}, "load", iter([LOAD])]:
            self.assertIs(is_code(value), False)
        for value in odd_objects() + own_objects():
            self.assertIs(is_code(value), value.__class__ in (list, tuple) and len(value) == 0)


class Compiled(Case):
    def test_wide_statements(self):
        self.assertEqual(compiled(Loop.copying()), [LOAD, CALL, STORE])
        self.assertEqual(compiled(Loop.summing()), [LOAD, ("call", 9, "s", 0), ADD])
        loop = read('line a 2\nline b 1\nf b@-9 a@9 b@0 a@-1\ng a@0\ns +')
        code = [
            ("load", 0, "a", 9), ("load", 1, "b", 0), ("load", 2, "a", -1), ("call", 9, "f", 0, 1, 2), ("store", "b", -9, 9),
            ("call", 9, "g"), ("store", "a", 0, 9), ("call", 9, "s"), ("add", "s", 9)]
        self.assertEqual(compiled(loop), code)
        self.assertEqual(compiled(bundles=((1, 1),), loop=loop), [*code[:5], ("lane", tuple(code[5:7])), *code[7:]])
        self.assertEqual(compiled(loop, ((0, 0), (1, 2))), [("lane", tuple(code[:5])), ("lane", tuple(code[5:]))])
        self.assertEqual(compiled(loop, ((0, 2),)), [("lane", tuple(code))])

    def test_kinds(self):
        for loop in drawn_loops(20, 3):
            for bundles in ALL_BUNDLES[len(loop)]:
                code = compiled(loop, bundles)
                self.assertIs(code.__class__, list)
                self.assertIs(is_code(code), True)
        code = compiled(Loop.copying())
        code.clear()
        self.assertEqual(len(compiled(Loop.copying())), 3)

    def test_the_longest(self):
        statements = "\n".join(f"{name} a@0 a@1 a@2 a@3" for name in "fghij")
        loop = read("line a 1\n" + statements)
        self.assertEqual(len(compiled(loop)), 25)
        self.assertIs(is_code(compiled(loop, tuple((at, at) for at in range(5)))), True)

    def test_wrong_bundles(self):
        loop = read('line a 1\nf a@0\ng a@0')
        for wrong in [
                ((0, 2),), ((2, 2),), ((0, 0), (1, 2)), ((1, 0),), ((0, 1), (1, 1)), ((1, 1), (0, 0)), ((0, 5),), ((-1, 0),),
                [(0, 0)], ([0, 0],), (0, 0), ((0, 0, 0),), ((0,),), ((0, True),), ((False, 0),), ((0, 0), (0, 0)), 0]:
            self.refuses(InvalidBundles, wrong, compiled, loop, wrong)
        for wrong in odd_objects() + own_objects():
            if wrong.__class__ is not tuple or len(wrong) > 0:
                self.refuses(InvalidBundles, wrong, compiled, loop, wrong)


if __name__ == "__main__":
    unittest.main()
