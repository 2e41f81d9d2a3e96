"""Choices and orders of a few things, and which of some choices are the least ones."""


def all_choices(things):
    """All tuples of some of the things in their order: those with fewer first, then by what stands ahead."""
    chosen = [()]
    for at in range(len(things)):
        chosen = [*chosen, *[(*one, at) for one in chosen]]
    ordered = sorted(chosen, key=lambda row: (len(row), row))
    return [tuple([things[place] for place in places]) for places in ordered]


def all_orders(things):
    """All tuples of the things, which are unlike, in any order: those that begin with the first thing first."""
    orders = [()]
    for place in range(len(things)):
        orders = [(*order, thing) for order in orders for thing in things if thing not in order[:place]]
    return orders


def is_part(one, other):
    """Whether all of one choice is in the other one."""
    return all([thing in other for thing in one])


def least_of(found, is_below):
    """Those of some unlike things below which, by a function of two of them, none of the others is."""
    return [one for one in found if not any([other != one and is_below(other, one) for other in found])]
