"""Loads ahead: how far ahead they may be done, and which loads of wide statements come too early or too late."""

from vectorwidths.plain import plain_origins
from vectorwidths.ways import GREATEST_AHEAD, Way, units_of
from vectorwidths.wide import check_way, wide_origins
from vectorwidths.widths import bound_of, is_safe, last_count


def safe_aheads(loop, way):
    """The ascending tuple of the values of the part `ahead` with which the loop is safe."""
    check_way(loop, way)
    return tuple([many for many in range(GREATEST_AHEAD + 1) if is_safe(loop, way.twin().change("ahead", many))])


def early_loads(loop, way):
    """The ascending list of the loads (j, k) of wide statements that have a wrong origin at some width and count."""
    check_way(loop, way)
    # A load that is wrong somewhere is wrong at the bound, too, where the last count shows all cases. The tails do not
    # matter to it: what is behind the end of a block is in one with a greater count.
    masked = Way(ahead=way.ahead, bundles=way.bundles)
    width = bound_of(loop)
    count = last_count(loop, masked, width)
    plain = plain_origins(loop, count)
    wide = wide_origins(loop, masked, width, count)
    alone = {first: True for first, last, bundled in units_of(way.bundles, len(loop)) if not bundled}
    return sorted({(j, k) for j, i, k in plain if j in alone and wide[j, i, k] != plain[j, i, k]})
