"""All widths: at which of them a loop with a way is safe, that is, right for every count."""

from vectorwidths.distances import reach
from vectorwidths.flows import differences, is_right_at
from vectorwidths.wide import check_way, check_width


def bound_of(loop):
    """The width from which on no new cases come."""
    return max(2, 2 * reach(loop) + 1)


def last_count(loop, way, width):
    """The count up to which all cases of this width come."""
    check_way(loop, way)
    check_width(width)
    return 2 * width + 2 * reach(loop)


def is_safe_at(loop, way, width):
    """Whether the loop is right at this width for every count.

    Two counts tell it: a count of whole blocks that is greater than the reach, and the one before it. A load that is
    wrong at some count is so wherever the same refs meet in the first blocks, and it stays wrong at greater counts. A
    cell that is wrong at some count is so, too, where the later one of its two stores is in the last lane of a block,
    and the count ends there. The count before it shows the lanes that are done beyond the end under `whole`."""
    count = width * (reach(loop) // width + 1)
    return is_right_at(loop, way, width, count) and is_right_at(loop, way, width, count - 1)


def first_count(loop, way, width):
    """The least count at which the loop is not right at this width, None if there is none."""
    check_way(loop, way)
    check_width(width)
    if is_safe_at(loop, way, width):
        return None
    # Under `rest` nothing goes wrong but in whole blocks: behind them all is as in the plain loop.
    step = width if way.tail == "rest" else 1
    count = step
    while is_right_at(loop, way, width, count):
        count += step
    return count


def least_unsafe(loop, way):
    """The least width that is not safe, None if all are."""
    unsafe = bound_of(loop)
    if is_safe_at(loop, way, unsafe):
        return None
    # No width is safe that is greater than one that is not, so that the least one can be closed in.
    safe = 0
    while unsafe - safe > 1:
        middle = (safe + unsafe) // 2
        if is_safe_at(loop, way, middle):
            safe = middle
        else:
            unsafe = middle
    return unsafe


def first_wrong(loop, way):
    """The tuple (width, count, difference) that comes first, None if there is none."""
    width = least_unsafe(loop, way)
    if width is None:
        return None
    count = first_count(loop, way, width)
    return (width, count, differences(loop, way, width, count)[0])


def safe_widths(loop, way):
    """The tuple of the safe widths up to the bound, and whether all greater ones are safe."""
    unsafe = least_unsafe(loop, way)
    if unsafe is None:
        return (tuple(range(1, bound_of(loop) + 1)), True)
    return (tuple(range(1, unsafe)), False)


def is_safe(loop, way):
    """Whether all widths are safe."""
    return is_safe_at(loop, way, bound_of(loop))


def greatest_safe(loop, way):
    """The greatest width such that it and all lesser ones are safe, None if all are."""
    unsafe = least_unsafe(loop, way)
    return None if unsafe is None else unsafe - 1
