"""Points [17], (i): a machine of any width."""

import random
import unittest

from tests.numbers import FUNCTIONS, Tape, drawn_cells, drawn_code, play_numbers
from tests.player import play_differences
from tests.samples import ALL_BUNDLES, drawn_loops, small_loops
from tests.support import GREAT, Case, no_integers, odd_objects, own_objects
from vectorwidths.codes import compiled
from vectorwidths.errors import InvalidCode, InvalidNumber, InvalidPart, UnknownCell
from vectorwidths.lines import Line
from vectorwidths.loops import Loop
from vectorwidths.machines import Machine, played
from vectorwidths.statements import Statement
from vectorwidths.texts import read
from vectorwidths.ways import Way

TWO = Loop([Line("a"), Line("b", 2)], Statement("f", ("a", 1), ("a", 0)), Statement("s", None, ("b", 0)))


def plus_one(i, values):
    """One more than the first value."""
    return values[0] + 1


def state_of(machine):
    """All that can be seen of a machine."""
    return machine.width, machine.cells(), machine.sums, machine.functions


class Making(Case):
    def test_widths(self):
        for width in (1, 2, 200):
            self.assertEqual(Machine(width).width, width)
            self.assertEqual(Machine(width=width).width, width)
        for wrong in [0, 201, -1, GREAT] + no_integers():
            self.refuses(InvalidNumber, wrong, Machine, wrong)
            self.refuses(InvalidNumber, wrong, Machine, wrong, None, tail=7, functions=8)

    def test_tails(self):
        for tail in ("mask", "rest"):
            self.assertEqual(Machine(2, tail=tail).width, 2)
        for wrong in ["whole", "Mask", "tail", "mask ", 0] + odd_objects() + own_objects():
            with self.assertRaises(InvalidPart) as caught:
                Machine(2, tail=wrong, functions=8)
            self.assertEqual(caught.exception.value, "tail")

    def test_functions(self):
        for wrong in [0, "f", plus_one] + odd_objects() + own_objects():
            if wrong is not None and not isinstance(wrong, dict):
                self.refuses(InvalidCode, wrong, Machine, 2, {}, tail="rest", functions=wrong)
        self.assertEqual(Machine(1).functions, {})
        self.assertEqual(Machine(1, functions=None).functions, {})
        self.assertEqual(Machine(1, functions={"f": plus_one}).functions, {"f": plus_one})

    def test_by_name_alone(self):
        with self.assertRaises(TypeError):
            Machine(1, None, "mask")

    def test_functions_read_and_assigned(self):
        handed = {"f": plus_one}
        machine = Machine(1, None, functions=handed)
        handed["g"] = len
        machine.functions["h"] = len
        self.assertEqual(machine.functions, {"f": plus_one})
        other = {"g": plus_one}
        machine.functions = other
        other.clear()
        self.assertEqual(machine.functions, {"g": plus_one})
        for wrong in [0, "f", plus_one] + odd_objects() + own_objects():
            if not isinstance(wrong, dict):
                self.refuses(InvalidCode, wrong, setattr, machine, "functions", wrong)
        self.assertEqual(machine.functions, {"g": plus_one})
        machine.functions = {}
        self.assertEqual(machine.functions, {})

    def test_properties(self):
        machine = Machine(3)
        for name in ("width", "sums"):
            with self.assertRaises(AttributeError):
                setattr(machine, name, 2)
        self.assertEqual([machine.width, machine.sums, machine.cells()], [3, {}, {}])
        self.cannot_be_iterated(machine)

    def test_cells_handed_in(self):
        cells = {("b", 3): 4, ("a", -5): -1, ("a", 0): 0}
        machine = Machine(1, cells)
        cells[("a", 7)] = 8
        cells[("b", 3)] = 5
        self.assertEqual(list(machine.cells().items()), [(("a", -5), -1), (("b", 3), 4)])
        machine[("b", 4)] = 1
        self.assertEqual(cells, {("b", 3): 5, ("a", -5): -1, ("a", 0): 0, ("a", 7): 8})
        self.assertEqual(Machine(width=1, cells=cells)["a", 7], 8)
        self.assertEqual(Machine(1, {}).cells(), {})


class Cells(Case):
    def test_reading_and_assigning(self):
        machine = Machine(1)
        for cell in (("a", 0), ("abcdefgh", -7), ("z", GREAT), ("z", -GREAT)):
            self.assertEqual(machine[cell], 0)
            machine[cell] = GREAT
            self.assertEqual(machine[cell], GREAT)
            machine[cell] = -3
            self.assertEqual(machine[cell], -3)
        self.assertEqual(list(machine.cells()), [("a", 0), ("abcdefgh", -7), ("z", -GREAT), ("z", GREAT)])
        machine["a", 0] = 0
        self.assertEqual(len(machine.cells()), 3)

    def test_new_dicts(self):
        machine = Machine(1, {("a", 0): 1})
        machine.cells().clear()
        machine.sums["f"] = 1
        self.assertEqual([machine.cells(), machine.sums], [{("a", 0): 1}, {}])

    def test_unknown_cells(self):
        machine = Machine(1)
        for wrong in [0, "a", ("a", 0, 0), ["a", 0], ("A", 0), ("ninechars", 0), ("", 0), ("a", None)] + odd_objects() + own_objects():
            if not (isinstance(wrong, tuple) and wrong[1:] in ((10,), (-10,), (GREAT,))):
                self.refuses(UnknownCell, wrong, lambda: machine[wrong])
                self.refuses(UnknownCell, wrong, machine.__setitem__, wrong, None)
                self.refuses(UnknownCell, wrong, machine.__setitem__, wrong, 5)
        self.assertEqual(machine.cells(), {})

    def test_wrong_numbers(self):
        machine = Machine(1)
        for wrong in no_integers():
            self.refuses(InvalidNumber, wrong, machine.__setitem__, ("a", 0), wrong)
        self.assertEqual(machine.cells(), {})


class Done(Case):
    def check(self, code, loop, width, tail, n, cells):
        """A machine does the code as it is played; another code then goes on with what is there."""
        machine = Machine(width, cells, tail=tail, functions=FUNCTIONS)
        tape = Tape(width, tail, FUNCTIONS, cells)
        self.assertIs(machine(code, loop, n), machine)
        held, totals = tape.run(code, loop, n).shown()
        self.assertEqual(list(machine.cells().items()), sorted(held.items()))
        self.assertEqual(list(machine.sums.items()), sorted(totals.items()))
        return machine, tape

    def test_against_the_player(self):
        draw = random.Random(1)
        for seed in range(250):
            loop = draw.choice((TWO, read('line b 1\nline a 3\nf +')))
            code = drawn_code(seed, "ab")
            for _ in range(6):
                width = draw.randint(1, 6)
                many = draw.randint(0, 3) * width
                n = max(0, draw.choice((0, 1, many, many + 1, many - 1, width - 1)))
                self.check(code, loop, width, draw.choice(("mask", "rest")), n, drawn_cells(draw))
            self.check(code, loop, 200, "mask", 5, {})
            self.check(code, loop, 7, "rest", 5, {})

    def test_all_widths_and_counts(self):
        draw = random.Random(2)
        for seed in range(300, 312):
            code, cells = drawn_code(seed, "ab"), drawn_cells(draw)
            for width in (1, 2, 3, 4, 5, 6):
                for tail in ("mask", "rest"):
                    for n in range(2 * width + 2):
                        self.check(code, TWO, width, tail, n, cells)

    def test_two_codes(self):
        draw = random.Random(3)
        for seed in range(60):
            code, other = drawn_code(2 * seed, "ab"), drawn_code(2 * seed + 1, "ab")
            machine, tape = self.check(code, TWO, 3, ("mask", "rest")[seed % 2], 5, drawn_cells(draw))
            machine(other, read('line a 2\nline b 1\nf +'), 4)(code, TWO, 1)
            tape.run(other, read('line a 2\nline b 1\nf +'), 4).run(code, TWO, 1)
            self.assertEqual((machine.cells(), machine.sums), tape.shown())

    def test_functions_are_told_the_iteration_and_the_values(self):
        told = []

        def telling(i, values):
            told.append((i, values))
            return 7

        code = [("load", 3, "a", 1), ("call", 0, "f", 3, 3, 0), ("call", 1, "f"), ("store", "b", -1, 0)]
        machine = Machine(2, {("a", 2): 5}, functions={"f": telling})
        machine(code, TWO, 3)
        self.assertEqual(told, [
            (0, (0, 0, 0)), (1, (5, 5, 0)), (0, ()), (1, ()), (2, (0, 0, 0)), (2, ())])
        self.assertEqual(machine.cells(), {("a", 2): 5, ("b", -1): 7, ("b", 1): 7, ("b", 3): 7})

    def test_registers_are_0_at_the_beginning_of_each_block(self):
        # Each lane adds its register to itself, by a function, and stores it.
        functions = {"f": plus_one}
        code = [("call", 2, "f", 2), ("call", 2, "f", 2), ("store", "a", 0, 2)]
        for width in (1, 2, 3):
            machine = Machine(width, functions=functions)(code, TWO, 5)
            self.assertEqual(list(machine.cells().values()), [2] * 5)
        machine = Machine(2, functions=functions)
        for _ in range(2):
            machine([("store", "a", 0, 2), ("call", 2, "f", 2)], TWO, 3)
            self.assertEqual(machine.cells(), {})

    def test_a_load_ahead_of_a_store_in_another_lane(self):
        cells = {("a", 0): 5}
        code = [("load", 0, "a", 0), ("call", 9, "f", 0), ("store", "a", 1, 9)]
        wide = Machine(3, cells, functions={"f": plus_one})(code, TWO, 3)
        self.assertEqual(wide.cells(), {("a", 0): 5, ("a", 1): 6, ("a", 2): 1, ("a", 3): 1})
        lane = Machine(3, cells, functions={"f": plus_one})([("lane", tuple(code))], TWO, 3)
        self.assertEqual(lane.cells(), {("a", 0): 5, ("a", 1): 6, ("a", 2): 7, ("a", 3): 8})

    def test_registers_in_an_order_lane(self):
        code = [("load", 0, "a", 0), ("lane", (("load", 1, "b", 0), ("call", 0, "f", 0, 1))), ("add", "s", 0)]
        machine = Machine(2, {("a", 0): 1, ("a", 1): 10, ("b", 0): 100, ("b", 2): 1000}, functions={"f": lambda i, v: sum(v)})
        self.assertEqual(machine(code, TWO, 2).sums, {"s": 1111})

    def test_lanes_that_are_off_do_nothing(self):
        told = []
        code = [("call", 0, "f"), ("store", "a", 9, 0), ("add", "s", 0)]
        machine = Machine(4, functions={"f": lambda i, values: told.append(i) or 1})
        machine(code, TWO, 5)
        self.assertEqual([told, machine.sums, len(machine.cells())], [[0, 1, 2, 3, 4], {"s": 5}, 5])
        machine(code, TWO, 0)
        self.assertEqual([told, machine.sums, len(machine.cells())], [[0, 1, 2, 3, 4], {"s": 5}, 5])

    def test_the_last_lane_stores_last(self):
        code = [("call", 0, "f"), ("store", "a", 0, 0), ("store", "a", 1, 0)]
        machine = Machine(3, functions={"f": lambda i, values: i + 1})(code, TWO, 3)
        self.assertEqual(list(machine.cells().values()), [1, 1, 2, 3])

    def test_sums(self):
        code = [("load", 0, "a", 0), ("add", "t", 0), ("add", "s", 1), ("add", "a", 0)]
        machine = Machine(2, {("a", 0): 3, ("a", 1): -3})
        self.assertEqual(machine.sums, {})
        self.assertEqual(list(machine(code, TWO, 2).sums.items()), [("a", 0), ("s", 0), ("t", 0)])
        self.assertEqual(machine(code, TWO, 1).sums, {"a": 3, "s": 0, "t": 3})
        self.assertEqual(Machine(2)(code, TWO, 0).sums, {})

    def test_great_numbers(self):
        self.assertEqual(Machine(200)([("add", "s", 0)], TWO, 200).sums, {"s": 0})
        machine = Machine(7, {("a", at): GREAT for at in range(200)})
        self.assertEqual(machine([("load", 0, "a", 0), ("add", "s", 0)], TWO, 200).sums, {"s": 200 * GREAT})
        self.assertEqual(Machine(200)((), TWO, 200).cells(), {})

    def test_strides_are_those_of_the_loop(self):
        code = [("call", 0, "f"), ("store", "b", -3, 0)]
        machine = Machine(2, functions={"f": lambda i, values: i + 1})
        machine(code=code, loop=TWO, count=3)
        self.assertEqual(machine.cells(), {("b", -3): 1, ("b", -1): 2, ("b", 1): 3})


class Errors(Case):
    def stays(self, machine, kind, field, *arguments):
        """The call raises this error, and changes nothing."""
        before = state_of(machine)
        self.refuses(kind, field, machine, *arguments)
        self.assertEqual(state_of(machine), before)

    def test_no_codes(self):
        machine = Machine(2, {("a", 0): 1}, functions=FUNCTIONS)
        machine([("add", "s", 0)], TWO, 1)
        for wrong in odd_objects() + own_objects() + [[("load", 10, "a", 0)], [("add", "s", 0)] * 61, ("add", "s", 0)]:
            if wrong.__class__ not in (list, tuple) or len(wrong) > 0:
                self.stays(machine, InvalidCode, wrong, wrong, TWO, -1)

    def test_lines_that_the_loop_does_not_have(self):
        machine = Machine(2, functions=FUNCTIONS)
        for order in (("load", 0, "c", 0), ("store", "c", 0, 0)):
            for wrong in ([order], (order,), [("add", "s", 0), ("lane", (("add", "s", 0), order))]):
                self.stays(machine, InvalidCode, wrong, wrong, TWO, None)
                self.stays(machine, InvalidCode, wrong, wrong, TWO, 0)
        self.assertEqual(machine([("load", 0, "b", 0), ("store", "a", 0, 0)], TWO, 2).cells(), {})

    def test_calls_without_functions(self):
        machine = Machine(2, functions={"f": plus_one})
        for wrong in ([("call", 0, "g")], [("lane", (("call", 0, "f", 0), ("call", 0, "g")))]):
            self.stays(machine, InvalidCode, wrong, wrong, TWO, 0)
            self.stays(machine, InvalidCode, wrong, wrong, TWO, None)
        machine.functions = {"g": plus_one}
        code = [("call", 0, "f", 0)]
        self.stays(machine, InvalidCode, code, code, TWO, 0)
        # The names of adds need no functions.
        self.assertEqual(machine([("call", 0, "g", 0), ("add", "f", 0)], TWO, 3).sums, {"f": 3})

    def test_counts(self):
        machine = Machine(2, functions=FUNCTIONS)
        machine([("call", 0, "f"), ("add", "s", 0), ("store", "a", 0, 0)], TWO, 2)
        for wrong in [-1, 201, GREAT] + no_integers():
            self.stays(machine, InvalidNumber, wrong, [("add", "s", 0)], TWO, wrong)

    def test_an_error_of_a_function_changes_nothing(self):
        def failing(i, values):
            return 7 // (2 - i)

        machine = Machine(2, {("a", 0): 4}, functions={"f": failing})
        before = state_of(machine)
        with self.assertRaises(ZeroDivisionError):
            machine([("call", 0, "f"), ("store", "a", 0, 0), ("add", "s", 0)], TWO, 4)
        self.assertEqual(state_of(machine), before)


class Played(Case):
    def test_against_the_plain_loop(self):
        draw = random.Random(5)
        for loop in [*drawn_loops(120, 81, 4), *small_loops()]:
            cells = drawn_cells(draw)
            for n in (0, 1, 2, 9):
                machine = played(loop, FUNCTIONS, n, cells)
                self.assertIs(machine.__class__, Machine)
                self.assertEqual((machine.width, machine.functions), (1, FUNCTIONS))
                held, totals = play_numbers(loop, FUNCTIONS, n, cells)
                self.assertEqual(list(machine.cells().items()), sorted(held.items()))
                self.assertEqual(list(machine.sums.items()), sorted(totals.items()))

    def test_told(self):
        machine = played(Loop.copying(), {"f": plus_one}, 3)
        self.assertEqual(machine.cells(), {("a", 1): 1, ("a", 2): 2, ("a", 3): 3})
        machine = played(cells={("a", 1): 5}, count=2, functions={"s": plus_one, "t": None}, loop=Loop.summing())
        self.assertEqual([machine.sums, machine.cells()], [{"s": 7}, {("a", 1): 5}])
        self.assertEqual(played(Loop.summing(), {"s": plus_one}, 0, None).sums, {})

    def test_errors(self):
        for wrong in [0, plus_one] + odd_objects() + own_objects():
            if not isinstance(wrong, dict):
                self.refuses(InvalidCode, wrong, played, Loop.copying(), wrong, -1)
        for functions in ({}, {"s": plus_one}):
            with self.assertRaises(InvalidCode) as caught:
                played(Loop.copying(), functions, -1)
            self.assertEqual(caught.exception.value, compiled(Loop.copying()))
        for wrong in [-1, 201, GREAT] + no_integers():
            self.refuses(InvalidNumber, wrong, played, Loop.copying(), {"f": plus_one}, wrong)
        self.assertEqual(len(played(Loop.copying(), {"f": plus_one}, 200).cells()), 200)


class Guarantee(Case):
    def test_where_there_are_no_differences(self):
        draw = random.Random(7)
        right = wrong = 0
        for loop in [*small_loops(), *drawn_loops(60, 91), *drawn_loops(30, 92, 3, 1)]:
            functions = {**FUNCTIONS}
            for bundles in ALL_BUNDLES[len(loop)]:
                code = compiled(loop, bundles)
                for tail in ("mask", "rest"):
                    width = draw.randint(1, 5)
                    for n in (draw.randint(0, width), draw.randint(width, 3 * width)):
                        cells = drawn_cells(draw)
                        machine = Machine(width, cells, tail=tail, functions=functions)(code, loop, n)
                        plain = played(loop, functions, n, cells)
                        same = (machine.cells(), machine.sums) == (plain.cells(), plain.sums)
                        if not play_differences(loop, Way(tail=tail, bundles=bundles), width, n):
                            self.assertTrue(same)
                            right += 1
                        else:
                            wrong += not same
        self.assertGreater(right, 500)
        self.assertGreater(wrong, 100)


if __name__ == "__main__":
    unittest.main()
