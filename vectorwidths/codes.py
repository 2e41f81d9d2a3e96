"""Codes: the orders that a machine does for one block, and the code of a loop."""

from vectorwidths.errors import InvalidBundles
from vectorwidths.integers import is_between
from vectorwidths.lines import is_name, is_ref
from vectorwidths.ways import are_bundles_of, units_of

GREATEST_COUNT = 9
MOST_READ = 3
MOST_ORDERS = 60
RESULT = 9


def are_registers(values):
    """Whether all values are numbers of registers."""
    return all([is_between(value, 0, GREATEST_COUNT) for value in values])


def is_single(value):
    """Whether any value is an order of the four kinds that can stand in an order `lane`."""
    if not isinstance(value, tuple) or len(value) < 3 or not isinstance(value[0], str):
        return False
    if value[0] == "load":
        return len(value) == 4 and are_registers(value[1:2]) and is_ref(value[2:])
    if value[0] == "call":
        named = are_registers(value[1:2]) and is_name(value[2])
        return named and len(value) <= 3 + MOST_READ and are_registers(value[3:])
    if value[0] == "store":
        return len(value) == 4 and is_ref(value[1:3]) and are_registers(value[3:])
    return value[0] == "add" and len(value) == 3 and is_name(value[1]) and are_registers(value[2:])


def is_lane(value):
    """Whether any value is an order `lane`."""
    if not isinstance(value, tuple) or len(value) != 2 or not isinstance(value[0], str) or value[0] != "lane":
        return False
    return isinstance(value[1], tuple) and all([is_single(order) for order in value[1]])


def singles_of(order):
    """The tuple of the orders that a lane does for an order: those in an order `lane`, or itself."""
    return order[1] if order[0] == "lane" else (order,)


def single_orders(code):
    """The list of the orders of a code that are no orders `lane`, those in them included."""
    return [single for order in code for single in singles_of(order)]


def is_code(value):
    """Whether any value is a code: a list or tuple of orders, not too many in all."""
    if not isinstance(value, (list, tuple)) or len(value) > MOST_ORDERS:
        return False
    if not all([is_single(order) or is_lane(order) for order in value]):
        return False
    return len(single_orders(value)) + len([order for order in value if order[0] == "lane"]) <= MOST_ORDERS


def statement_orders(statement):
    """The orders of one statement: its loads, a call, and its store or add."""
    loads = [("load", at, line, offset) for at, (line, offset) in enumerate(statement.sources)]
    call = ("call", RESULT, statement.name, *list(range(len(statement))))
    if statement.is_sum:
        return [*loads, call, ("add", statement.name, RESULT)]
    line, offset = statement.target
    return [*loads, call, ("store", line, offset, RESULT)]


def compiled(loop, bundles=()):
    """The code of a loop, in which the statements of bundles are done lane by lane."""
    if not are_bundles_of(bundles, loop):
        raise InvalidBundles(bundles)
    code = []
    for first, last, bundled in units_of(bundles, len(loop)):
        orders = [order for number in range(first, last + 1) for order in statement_orders(loop[number])]
        if bundled:
            code.append(("lane", tuple(orders)))
        else:
            code.extend(orders)
    return code
