"""Points [13], [14], (e): terms, sums, and the rules of adding."""

import itertools
import unittest

from tests.support import GREAT, Case, no_integers, odd_objects, own_objects
from vectorwidths.errors import InvalidNumber, InvalidRules, InvalidTerm
from vectorwidths.sums import (
    RULES, are_equal, is_term, items_of, least_rules, least_rules_at, least_rules_for, plain_sum, wide_sum)
from vectorwidths.ways import Way

ZERO = ("zero",)
TAILS = ("mask", "rest", "whole")
JOININGS = ("row", "parts", "tree")
SETS = [(), ("regroup",), ("regroup", "swap"), ("regroup", "swap", "zero"), ("regroup", "zero"), ("swap",),
        ("swap", "zero"), ("zero",)]


def item(at):
    """The term of an item."""
    return ("item", at)


def add(*terms):
    """The terms added one after the other, from the first one on."""
    total = terms[0]
    for term in terms[1:]:
        total = ("add", total, term)
    return total


def all_ways():
    """All ways that a sum can be done in, as far as it tells them apart."""
    return [Way(tail=tail, joining=joining) for tail in TAILS for joining in JOININGS]


def terms_of(leaves, many):
    """All terms with so many leaves."""
    if many == 1:
        return list(leaves)
    return [
        ("add", one, other) for left in range(1, many) for one in terms_of(leaves, left)
        for other in terms_of(leaves, many - left)]


def steps(term, rules):
    """All terms that one step leads to that makes no term greater, at any place."""
    found = []
    if term[0] == "add":
        one, other = term[1], term[2]
        if "swap" in rules:
            found.append(("add", other, one))
        if "regroup" in rules and one[0] == "add":
            found.append(("add", one[1], ("add", one[2], other)))
        if "regroup" in rules and other[0] == "add":
            found.append(("add", ("add", one, other[1]), other[2]))
        if "zero" in rules and other == ZERO:
            found.append(one)
        if "zero" in rules and one == ZERO:
            found.append(other)
        found.extend(("add", new, other) for new in steps(one, rules))
        found.extend(("add", one, new) for new in steps(other, rules))
    return found


def classes_of(terms, rules):
    """A dict from each term to the first one of those that steps lead to and from, there and back."""
    roots = {term: term for term in terms}

    def root(term):
        while roots[term] != term:
            term = roots[term]
        return term

    for term in terms:
        for new in steps(term, rules):
            roots[root(new)] = root(term)
    return {term: root(term) for term in terms}


class Terms(Case):
    TERMS = (
        ZERO, item(0), item(7), item(GREAT), add(ZERO, ZERO), add(item(1), item(1)), add(ZERO, item(3), item(0)),
        ("add", item(1), ("add", ZERO, ("add", item(2), item(2)))))

    def test_terms(self):
        for term in self.TERMS:
            self.assertIs(is_term(term), True)

    def test_others(self):
        for value in odd_objects() + own_objects():
            self.assertIs(is_term(value), False)
        for value in [
                ["zero"], ("zero", 0), ("zero", ()), "zero", ("Zero",), ("add",), ("add", ZERO), ("add", ZERO, ZERO, ZERO),
                ["add", ZERO, ZERO], ("add", ["zero"], ZERO), ("add", ZERO, ["item", 0]), ("item",), ("item", -1),
                ("item", True), ("item", False), ("item", "0"), ("item", None), ("item", 0, 0), ("item", item(0)), ["item", 0],
                ("sum", ZERO, ZERO), ("add", ZERO, None), ("add", 0, 1), (ZERO,), ("add", ZERO, ("item", -2)), 0,
                ("add", ("add", ZERO, ("item", True)), ZERO), (None, 0), (True,), (0, 1, 2), ("item", []), ("item", -GREAT),
                (("zero",), ZERO, ZERO), ("add", ZERO, ("zero", "zero")), (b"zero",), ("items", 0), ("zer",),
                ("add", {}, {}), ("add", (), ())]:
            self.assertIs(is_term(value), False)
            self.assertIs(is_term(("add", value, ZERO)), False)
            self.assertIs(is_term(("add", ZERO, value)), False)
        self.assertIs(is_term(value=ZERO), True)

    def test_odd_objects_inside(self):
        for odd in odd_objects() + own_objects():
            for value in ((odd,), (odd, 0), (odd, ZERO, ZERO), ("add", odd, ZERO), ("add", ZERO, odd), ("zero", odd)):
                self.assertIs(is_term(value), False)
            self.assertIs(is_term(("item", odd)), False)

    def test_deep_terms(self):
        deep = plain_sum(60)
        for _ in range(15):
            deep = ("add", deep, ZERO)
        self.assertIs(is_term(deep), True)
        self.assertEqual(items_of(deep), tuple(range(60)))
        self.assertIs(is_term(("add", deep, ["zero"])), False)
        wide = wide_sum(Way(joining="parts"), 60, 60)
        for rules in SETS:
            self.assertIs(are_equal(deep, plain_sum(60), rules), "zero" in rules)
            self.assertIs(are_equal(wide, plain_sum(60), rules), "zero" in rules)
        self.assertIs(are_equal(wide_sum(Way(joining="tree"), 1, 60), plain_sum(60), ()), True)

    def test_items(self):
        self.assertEqual([items_of(term) for term in self.TERMS], [
            (), (0,), (7,), (GREAT,), (), (1, 1), (3, 0), (1, 2, 2)])
        self.assertEqual(items_of(("add", add(item(4), item(2)), add(item(9), ZERO, item(0)))), (4, 2, 9, 0))
        self.assertEqual(items_of(term=item(3)), (3,))
        for value in odd_objects() + own_objects() + [["zero"], ("item", True), ("add", ZERO)]:
            self.refuses(InvalidTerm, value, items_of, value)


class Sums(Case):
    def test_plain(self):
        self.assertEqual(plain_sum(0), ZERO)
        self.assertEqual(plain_sum(1), ("add", ZERO, item(0)))
        self.assertEqual(plain_sum(count=3), add(ZERO, item(0), item(1), item(2)))
        for count in range(61):
            self.assertEqual(plain_sum(count), add(ZERO, *[item(at) for at in range(count)]))

    def test_row(self):
        for width in (1, 2, 3, 4, 5, 60):
            for count in (0, 1, 3, 4, 5, 8, 9, 59, 60):
                self.assertEqual(wide_sum(Way(), width, count), plain_sum(count))
                self.assertEqual(wide_sum(Way(tail="rest"), width, count), plain_sum(count))
                whole = -(-count // width) * width
                self.assertEqual(
                    wide_sum(Way(tail="whole"), width, count), add(ZERO, *[item(at) for at in range(whole)]))

    def lanes_of(self, tail, width, count):
        """The parts of the lanes, and the items behind them."""
        done = {"mask": count, "rest": count // width * width, "whole": -(-count // width) * width}[tail]
        parts = [add(ZERO, *[item(at) for at in range(lane, done, width)]) for lane in range(width)]
        return parts, [item(at) for at in range(done, count)]

    def test_parts(self):
        for tail, width, count in itertools.product(TAILS, (1, 2, 3, 4, 5, 8, 60), (0, 1, 2, 3, 4, 5, 7, 8, 9, 16, 59, 60)):
            parts, rest = self.lanes_of(tail, width, count)
            wanted = add(ZERO, *parts, *rest)
            self.assertEqual(wide_sum(Way(tail=tail, joining="parts"), width, count), wanted)

    def test_tree(self):
        shapes = {
            1: lambda a: a, 2: add, 3: add, 4: lambda a, b, c, d: add(add(a, b), add(c, d)),
            5: lambda a, b, c, d, e: add(add(add(a, b), add(c, d)), e),
            6: lambda a, b, c, d, e, f: add(add(add(a, b), add(c, d)), add(e, f)),
            7: lambda a, b, c, d, e, f, g: add(add(add(a, b), add(c, d)), add(add(e, f), g)),
            8: lambda a, b, c, d, e, f, g, h: add(add(add(a, b), add(c, d)), add(add(e, f), add(g, h)))}
        for tail, width, count in itertools.product(TAILS, shapes, range(0, 20)):
            parts, rest = self.lanes_of(tail, width, count)
            wanted = add(shapes[width](*parts), *rest)
            self.assertEqual(wide_sum(Way(tail=tail, joining="tree"), width, count), wanted)

    def test_told(self):
        tree = Way(joining="tree")
        self.assertEqual(wide_sum(tree, 2, 3), add(add(ZERO, item(0), item(2)), add(ZERO, item(1))))
        self.assertEqual(wide_sum(tree, 3, 1), add(add(add(ZERO, item(0)), ZERO), ZERO))
        self.assertEqual(wide_sum(tree, 3, 0), add(add(ZERO, ZERO), ZERO))
        self.assertEqual(
            wide_sum(Way(joining="parts", tail="rest"), 2, 3), add(ZERO, add(ZERO, item(0)), add(ZERO, item(1)), item(2)))
        self.assertEqual(wide_sum(Way(joining="parts", tail="rest"), 2, 1), add(ZERO, ZERO, ZERO, item(0)))
        self.assertEqual(
            wide_sum(Way(joining="parts", tail="whole"), 2, 1), add(ZERO, add(ZERO, item(0)), add(ZERO, item(1))))
        self.assertEqual(wide_sum(width=60, count=0, way=tree), wide_sum(tree, 60, 0))

    def test_numbers(self):
        for call in (wide_sum, least_rules_at):
            for wrong in [0, 61, -1, GREAT, -GREAT] + no_integers():
                self.refuses(InvalidNumber, wrong, call, Way(), wrong, -1)
            for wrong in [61, -1, GREAT] + no_integers():
                self.refuses(InvalidNumber, wrong, call, Way(), 1, wrong)
                self.refuses(InvalidNumber, wrong, call, Way(tail="rest"), 60, wrong)
        for wrong in [61, -1, GREAT] + no_integers():
            self.refuses(InvalidNumber, wrong, plain_sum, wrong)

    def test_bundles_and_the_rest_of_the_way_do_not_matter(self):
        way = Way(joining="tree", tail="rest", ahead=3, guard=False, bundles=((0, 0), (3, 4)))
        self.assertEqual(wide_sum(way, 3, 7), wide_sum(Way(joining="tree", tail="rest"), 3, 7))
        self.assertEqual(least_rules(way), least_rules(Way(joining="tree", tail="rest")))


class Equal(Case):
    def test_against_single_steps(self):
        leaves = (ZERO, item(0), item(1))
        small = [term for many in (1, 2, 3) for term in terms_of(leaves, many)]
        for rules in SETS:
            classes = classes_of(small, rules)
            for one, other in itertools.product(small, small):
                self.assertIs(are_equal(one, other, rules), classes[one] == classes[other])

    def test_against_single_steps_of_greater_terms(self):
        leaves = (ZERO, item(0), item(1))
        terms = [term for many in (1, 2, 3, 4) for term in terms_of(leaves, many)]
        for rules in SETS:
            classes = classes_of(terms, rules)
            for one in terms[::23]:
                for other in terms[::3]:
                    self.assertIs(are_equal(one, other, rules), classes[one] == classes[other])

    def test_told(self):
        a, b, c = item(0), item(1), item(2)
        cases = [
            (add(a, b, c), add(a, b, c), SETS),
            (add(a, b, c), add(a, add(b, c)), [rules for rules in SETS if "regroup" in rules]),
            (add(a, b), add(b, a), [rules for rules in SETS if "swap" in rules]),
            (add(a, ZERO), a, [rules for rules in SETS if "zero" in rules]),
            (add(ZERO, a), a, [rules for rules in SETS if "zero" in rules]),
            (add(ZERO, ZERO, ZERO), ZERO, [rules for rules in SETS if "zero" in rules]),
            (add(ZERO, a), add(a, ZERO), [rules for rules in SETS if "swap" in rules or "zero" in rules]),
            (add(a, b, c), add(a, c, b), [("regroup", "swap"), RULES]),
            (add(a, b, c), add(c, add(b, a)), [rules for rules in SETS if "swap" in rules]),
            (add(a, add(ZERO, b)), add(a, b), [rules for rules in SETS if "zero" in rules]),
            (add(a, add(b, c)), add(ZERO, a, b, c), [("regroup", "zero"), RULES]),
            (add(a, a, b), add(b, add(a, a)), [rules for rules in SETS if "swap" in rules]),
            (add(a, a, b), add(a, b), []), (add(a, a), a, []), (add(a, b), add(a, c), []), (a, ZERO, []),
            (add(a, a, b), add(a, b, b), []), (add(a, b, ZERO), add(ZERO, b, a), [
                ("regroup", "swap"), RULES, ("swap", "zero")])]
        for one, other, wanted in cases:
            self.assertEqual([rules for rules in SETS if are_equal(one, other, rules)], sorted(wanted))
            self.assertEqual([rules for rules in SETS if are_equal(other, one, rules)], sorted(wanted))

    def test_wrong_terms(self):
        for wrong in odd_objects() + own_objects() + [["zero"], ("add", ZERO, ("item", -1))]:
            self.refuses(InvalidTerm, wrong, are_equal, wrong, ["zero"], ["swap"])
            self.refuses(InvalidTerm, wrong, are_equal, ZERO, wrong, ["swap"])

    def test_wrong_rules(self):
        wrong_rules = [
            ("swap", "regroup"), ("zero", "swap"), ("swap", "swap"), ["swap"], [], "swap", ("add",), ("Swap",), ("swap", None),
            ("swap", True), (0,), (("swap",),), ("regroup", "swap", "zero", "zero"), ("zero", "regroup"), {"swap"},
            {"swap": 1}, (["swap"],), ("regroup", "zero", "swap"), "", ("",), ({},)]
        for wrong in wrong_rules + [odd for odd in no_integers() if odd != ()]:
            self.refuses(InvalidRules, wrong, are_equal, ZERO, ZERO, wrong)
        self.assertIs(are_equal(rules=(), other=ZERO, one=ZERO), True)

    def test_rules(self):
        self.assertEqual(RULES, ("regroup", "swap", "zero"))
        self.assertIs(type(RULES), tuple)


def least_sets(found):
    """The least ones of some sets of rules, sorted."""
    return sorted(one for one in found if not any(set(other) < set(one) for other in found))


def serving(way, width, counts):
    """The sets of rules by which the sums are equal at all these counts."""
    return [
        rules for rules in SETS
        if all(are_equal(wide_sum(way, width, count), plain_sum(count), rules) for count in counts)]


class Least(Case):
    def test_at(self):
        for way in all_ways():
            for width in (1, 2, 3, 4, 5, 7):
                for count in range(0, 13):
                    self.assertEqual(
                        least_rules_at(way, width, count), least_sets(serving(way, width, [count])))

    def test_told(self):
        tree, parts, whole = Way(joining="tree"), Way(joining="parts"), Way(tail="whole")
        self.assertEqual([least_rules_at(tree, 2, count) for count in range(4)], [
            [("zero",)], [("zero",)], [("zero",)], [RULES]])
        self.assertEqual(least_rules_at(tree, 4, 4), [("regroup", "zero")])
        self.assertEqual(least_rules_at(parts, 4, 4), [("zero",)])
        self.assertEqual(least_rules_at(whole, 2, 1), [])
        self.assertEqual(least_rules_at(whole, 2, 2), [()])
        self.assertEqual(least_rules_at(Way(), 60, 60), [()])
        self.assertEqual(least_rules_at(tree, 60, 60), [("regroup", "zero")])
        self.assertEqual(least_rules_at(way=tree, count=1, width=1), [()])

    def test_for_all_counts(self):
        for way in all_ways():
            for width in range(1, 13):
                self.assertEqual(least_rules_for(way, width), least_sets(serving(way, width, range(61))))

    def test_for_all_widths(self):
        for way in all_ways():
            found = [
                rules for rules in SETS
                if all(any(set(one) <= set(rules) for one in least_rules_for(way, width)) for width in range(1, 13))]
            self.assertEqual(least_rules(way), least_sets(found))

    def test_all_widths_told(self):
        self.assertEqual([least_rules(way) for way in all_ways()], [
            [()], [RULES], [RULES], [()], [RULES], [RULES], [], [], []])
        self.assertEqual([least_rules_for(way, 1) for way in all_ways()], [
            [()], [("zero",)], [()], [()], [("zero",)], [()], [()], [("zero",)], [()]])
        self.assertEqual(least_rules_for(width=12, way=Way(joining="tree")), [RULES])

    def test_new_lists(self):
        for call in (lambda: least_rules(Way()), lambda: least_rules_for(Way(), 2), lambda: least_rules_at(Way(), 2, 2)):
            call().clear()
            self.assertEqual(call(), [()])

    def test_widths(self):
        for wrong in [0, 13, -1, 60, 200, GREAT] + no_integers():
            self.refuses(InvalidNumber, wrong, least_rules_for, Way(), wrong)


if __name__ == "__main__":
    unittest.main()
