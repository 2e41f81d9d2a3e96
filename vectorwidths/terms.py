"""Terms: how items are added, the leaves of a term, and a number for all terms that are equal without regrouping.

Terms can be deeper than Python calls itself, so that all here goes by lists of what is still to be done."""

ZERO = ("zero",)


def added(term, items):
    """The sum that begins with a term, to which these items are added one after the other."""
    for at in items:
        term = ("add", term, ("item", at))
    return term


def leaves_of(term):
    """The list of the items and zeros in a term, from left to right."""
    leaves = []
    todo = [term]
    while todo:
        part = todo.pop()
        if part[0] == "add":
            todo.extend([part[2], part[1]])
        else:
            leaves.append(part)
    return leaves


def number_of_key(key, numbers):
    """The number of a key, a new one at its first time."""
    return numbers.setdefault(key, len(numbers))


def number_of_sum(one, other, rules, numbers):
    """The number of the sum of two terms that have these numbers."""
    if "zero" in rules:
        zero = number_of_key(ZERO, numbers)
        if other == zero:
            return one
        if one == zero:
            return other
    if "swap" in rules:
        return number_of_key(("add", min(one, other), max(one, other)), numbers)
    return number_of_key(("add", one, other), numbers)


def number_of(term, rules, numbers):
    """The number of a term: one for all that are equal to it by the rules `swap` and `zero` among these."""
    todo = [(term, False)]
    done = []
    while todo:
        part, is_ready = todo.pop()
        if part[0] != "add":
            done.append(number_of_key(part, numbers))
        elif is_ready:
            other = done.pop()
            one = done.pop()
            done.append(number_of_sum(one, other, rules, numbers))
        else:
            todo.extend([(part, True), (part[2], False), (part[1], False)])
    return done[0]


def flat(term, rules):
    """The list of the leaves by which terms are told apart if sums are regrouped."""
    leaves = leaves_of(term)
    if "zero" in rules:
        leaves = [leaf for leaf in leaves if leaf != ZERO]
    return sorted(leaves) if "swap" in rules else leaves


def are_same(one, other, rules):
    """Whether two terms are equal by a set of rules."""
    if "regroup" in rules:
        return flat(one, rules) == flat(other, rules)
    numbers = {}
    return number_of(one, rules, numbers) == number_of(other, rules, numbers)
