"""Sums: the terms of the plain and the wide sum, and which rules of adding make them equal."""

from vectorwidths.choices import all_choices, is_part, least_of
from vectorwidths.errors import InvalidNumber, InvalidRules, InvalidTerm
from vectorwidths.integers import is_between, is_count
from vectorwidths.terms import ZERO, added, are_same, leaves_of
from vectorwidths.wide import blocks, lanes

RULES = ("regroup", "swap", "zero")
MOST_LANES = 60
MOST_ITEMS = 60
WIDEST_FOR_ALL = 12


def is_leaf(value):
    """Whether any value is a zero or an item."""
    if value == ZERO:
        return True
    return len(value) == 2 and value[0] == "item" and is_count(value[1])


def is_term(value):
    """Whether any value is a term."""
    todo = [value]
    while todo:
        part = todo.pop()
        if not isinstance(part, tuple) or len(part) == 0 or not isinstance(part[0], str):
            return False
        if part[0] == "add" and len(part) == 3:
            todo.extend([part[1], part[2]])
        elif not is_leaf(part):
            return False
    return True


def check_items(count):
    """Refuses what is no count of items that a sum has."""
    if not is_between(count, 0, MOST_ITEMS):
        raise InvalidNumber(count)


def check_sum(width, count):
    """Refuses what is no width, or no count, of a sum."""
    if not is_between(width, 1, MOST_LANES):
        raise InvalidNumber(width)
    check_items(count)


def check_terms(terms):
    """Refuses the first one of some values that is no term."""
    for term in terms:
        if not is_term(term):
            raise InvalidTerm(term)


def plain_sum(count):
    """The term of the plain sum of so many items."""
    check_items(count)
    return added(ZERO, list(range(count)))


def in_row(parts):
    """The sum of parts that are added in order to a zero."""
    total = ZERO
    for part in parts:
        total = ("add", total, part)
    return total


def in_tree(parts):
    """The sum of parts of which neighbours are added in pairs until one is left."""
    left = list(parts)
    while len(left) > 1:
        pairs = [("add", left[at], left[at + 1]) for at in range(0, len(left) - 1, 2)]
        left = [*pairs, *left[2 * len(pairs):]]
    return left[0]


def joined(way, width, rows):
    """The sum of the items in the lanes of all blocks, which are rows of iterations."""
    if way.joining == "row":
        return added(ZERO, [at for row in rows for at in row])
    parts = [added(ZERO, [at for row in rows for at in row if at % width == lane]) for lane in range(width)]
    return in_row(parts) if way.joining == "parts" else in_tree(parts)


def wide_sum(way, width, count):
    """The term of the wide sum."""
    check_sum(width, count)
    rows = [lanes(way, width, count, block) for block in range(blocks(way, width, count))]
    # Behind all blocks there is something left under `rest` alone.
    return added(joined(way, width, rows), list(range(len(rows) * width, count)))


def items_of(term):
    """The tuple of the numbers of the items in a term, from left to right."""
    check_terms([term])
    return tuple([leaf[1] for leaf in leaves_of(term) if leaf != ZERO])


def is_rule_set(value):
    """Whether any value is a tuple of some of the rules, each once, in their order."""
    if not isinstance(value, tuple) or not all([isinstance(word, str) for word in value]):
        return False
    return value in all_choices(RULES)


def are_equal(one, other, rules):
    """Whether two terms are equal by a set of rules."""
    check_terms([one, other])
    if not is_rule_set(rules):
        raise InvalidRules(rules)
    return are_same(one, other, rules)


def serving(way, width, counts):
    """The list of the sets of rules by which the wide sum is equal to the plain one at each of these counts."""
    pairs = [(wide_sum(way, width, count), plain_sum(count)) for count in counts]
    return [rules for rules in all_choices(RULES) if all([are_same(wide, plain, rules) for wide, plain in pairs])]


def least_rules_at(way, width, count):
    """The sorted list of the least sets of rules that serve at this width and count."""
    return sorted(least_of(serving(way, width, [count]), is_part))


def least_rules_of(way, width):
    """The sorted list of the least sets of rules that serve at any width for all counts.

    The counts of up to two whole blocks tell it. From the width 2 on each lane has two items then, so that a sum that
    is joined by lanes is equal to the plain one by all rules or by none. At the width 1 all counts are alike."""
    return sorted(least_of(serving(way, width, list(range(2 * width + 1))), is_part))


def least_rules_for(way, width):
    """The sorted list of the least sets of rules that serve at this width for all counts."""
    if not is_between(width, 1, WIDEST_FOR_ALL):
        raise InvalidNumber(width)
    return least_rules_of(way, width)


def least_rules(way):
    """The sorted list of the least sets of rules that serve for all widths and counts."""
    # No width needs a rule that the width 2 does not need, and what serves there serves at all widths.
    return least_rules_of(way, 2)
