"""Point [7]: the plain loop."""

import unittest

from tests.support import GREAT, Case, no_integers
from vectorwidths.errors import InvalidNumber
from vectorwidths.lines import Line
from vectorwidths.loops import Loop
from vectorwidths.plain import plain_cells, plain_events, plain_origins, plain_writers
from vectorwidths.statements import Statement


def mixed():
    """A loop with a statement of two sources, a sum, and a statement without a source."""
    return Loop(
        [Line("b", 2), Line("a")], Statement("f", ("a", 1), ("a", 0), ("b", -1)), Statement("s", None, ("a", 1)),
        Statement("g", ("b", 1)))


class Events(Case):
    def test_in_order(self):
        self.assertEqual(list(plain_events(mixed(), 2)), [
            ("load", 0, 0, 0), ("load", 0, 0, 1), ("store", 0, 0, 0), ("load", 1, 0, 0), ("add", 1, 0, 0),
            ("store", 2, 0, 0),
            ("load", 0, 1, 0), ("load", 0, 1, 1), ("store", 0, 1, 0), ("load", 1, 1, 0), ("add", 1, 1, 0),
            ("store", 2, 1, 0)])
        self.assertEqual(list(plain_events(count=1, loop=Loop.summing())), [("load", 0, 0, 0), ("add", 0, 0, 0)])

    def test_counts(self):
        for count in (0, 1, 200):
            self.assertEqual(len(list(plain_events(Loop.copying(), count))), 2 * count)
            self.assertEqual(len(plain_origins(Loop.copying(), count)), count)
            self.assertEqual(len(plain_writers(Loop.copying(), count)), count)
            self.assertEqual(len(plain_cells(Loop.copying(), count)), count + 1 if count else 0)

    def test_wrong_counts(self):
        for count in [-1, 201, GREAT, -GREAT] + no_integers():
            for call in (plain_origins, plain_writers, plain_cells):
                self.refuses(InvalidNumber, count, call, Loop.copying(), count)
                self.refuses(InvalidNumber, count, call, count=count, loop=Loop.copying())
            self.refuses(InvalidNumber, count, list, plain_events(Loop.copying(), count))

    def test_the_error_comes_when_the_iteration_begins(self):
        events = plain_events(Loop.copying(), -1)
        self.refuses(InvalidNumber, -1, next, events)

    def test_it_is_a_generator(self):
        events = plain_events(Loop.copying(), 1)
        self.assertIs(iter(events), events)
        self.assertEqual([next(events), next(events), next(events, None)], [
            ("load", 0, 0, 0), ("store", 0, 0, 0), None])


class Origins(Case):
    def test_origins(self):
        self.assertEqual(list(plain_origins(mixed(), 2).items()), [
            ((0, 0, 0), None), ((0, 0, 1), None), ((1, 0, 0), (0, 0)),
            ((0, 1, 0), (0, 0)), ((0, 1, 1), (2, 0)), ((1, 1, 0), (0, 1))])

    def test_the_latest_store_counts(self):
        loop = Loop([Line("a")], Statement("f", ("a", 0)), Statement("g", ("a", 0), ("a", 0)), Statement(
            "h", None, ("a", 0), ("a", -1)))
        self.assertEqual(plain_origins(loop, 2), {
            (1, 0, 0): (0, 0), (2, 0, 0): (1, 0), (2, 0, 1): None,
            (1, 1, 0): (0, 1), (2, 1, 0): (1, 1), (2, 1, 1): (1, 0)})

    def test_a_load_is_ahead_of_the_store_of_its_statement(self):
        loop = Loop([Line("a")], Statement("f", ("a", 0), ("a", 0)))
        self.assertEqual(plain_origins(loop, 2), {(0, 0, 0): None, (0, 1, 0): None})

    def test_without_sources(self):
        self.assertEqual(plain_origins(Loop([Line("a")], Statement("f", ("a", 0))), 3), {})


class Writers(Case):
    def test_writers_ascending(self):
        self.assertEqual(list(plain_writers(mixed(), 2).items()), [
            (("a", 1), (0, 0)), (("a", 2), (0, 1)), (("b", 1), (2, 0)), (("b", 3), (2, 1))])

    def test_stored_to_more_than_once(self):
        loop = Loop([Line("a")], Statement("f", ("a", 1)), Statement("g", ("a", 0)), Statement("h", ("a", 1)))
        self.assertEqual(list(plain_writers(loop, 2).items()), [
            (("a", 0), (1, 0)), (("a", 1), (1, 1)), (("a", 2), (2, 1))])

    def test_places_below_zero_ascend_as_numbers(self):
        loop = Loop([Line("a")], Statement("f", ("a", -2)))
        self.assertEqual(list(plain_writers(loop, 4)), [("a", -2), ("a", -1), ("a", 0), ("a", 1)])

    def test_sums_store_nothing(self):
        self.assertEqual(plain_writers(Loop.summing(), 5), {})


class Cells(Case):
    def test_cells(self):
        self.assertEqual(plain_cells(mixed(), 2), [
            ("a", 0), ("a", 1), ("a", 2), ("b", -1), ("b", 1), ("b", 3)])
        self.assertEqual(plain_cells(Loop.summing(), 2), [("a", 0), ("a", 1)])
        self.assertEqual(plain_cells(mixed(), 0), [])

    def test_ascending(self):
        loop = Loop([Line("b"), Line("a")], Statement("f", ("b", -9), ("a", 9)), Statement("g", ("a", -9), ("b", 9)))
        found = plain_cells(loop, 20)
        self.assertEqual(found, sorted(set(found)))
        self.assertEqual([len(found), found[0], found[-1]], [76, ("a", -9), ("b", 28)])

    def test_sums_have_no_cells_of_their_own(self):
        loop = Loop([Line("a"), Line("b")], Statement("s"), Statement("g", None, ("a", 1)), Statement("h", None))
        self.assertEqual(plain_cells(loop, 2), [("a", 1), ("a", 2)])
        self.assertEqual(plain_origins(loop, 2), {(1, 0, 0): None, (1, 1, 0): None})
        self.assertEqual(plain_writers(loop, 2), {})

    def test_results_are_new(self):
        loop = mixed()
        for call in (plain_origins, plain_writers, plain_cells):
            call(loop, 3).clear()
            self.assertNotEqual(len(call(loop, 3)), 0)


if __name__ == "__main__":
    unittest.main()
