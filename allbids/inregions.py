"""Likeness and demand at all prices of a region."""

from allbids.bounds import corners_of
from allbids.checks import are_kinds, check_same_kinds
from allbids.demand import demand_map
from allbids.errors import BadRow
from allbids.gains import gain_on
from allbids.likeness import difference, least_within
from allbids.regions import whole_bounds
from allbids.scales import ratios_of, scaled_bids, told_tops
from allbids.sums import units_of
from allbids.worths import check_buyer


def alike_in(one, other, region):
    """None if both lists have equal gains at all prices of a region, otherwise such prices at which they have not."""
    rows, bounds, bottom = difference_in(one, other, region)
    for prices in corners_of(bounds, rows):
        if gain_on(rows, prices) != 0:
            return told_tops(prices, bottom)
    return None


def never_below_in(one, other, region):
    """None if the gain of one is at least that of other at all prices of a region, otherwise such prices at which it
    is less."""
    rows, bounds, bottom = difference_in(one, other, region)
    least, prices = least_within(rows, bounds)
    if least >= 0:
        return None
    return told_tops(prices, bottom)


def taken_in(bids, region):
    """All taken bundles whose regions have prices in common with a region."""
    check_same_kinds(bids, region)
    return tuple([bundle for bundle, prices in demand_map(bids) if prices.common(region) is not None])


def units_in(bids, region, kinds):
    """The least and the greatest number of units of a set of kinds that the bundles of taken_in have."""
    check_same_kinds(bids, region)
    check_buyer(bids)
    if not are_kinds(kinds, bids.kinds):
        raise BadRow(kinds)
    units = [units_of(bundle, kinds) for bundle in taken_in(bids, region)]
    return (min(units), max(units))


def difference_in(one, other, region):
    """The list whose gain is that of one less that of other, and the bounds of a region, in whole numbers, and their
    bottom."""
    rest = difference(one, other)
    check_same_kinds(rest, region)
    bounds, bottom = whole_bounds(region, ratios_of(rest))
    return scaled_bids(rest, bottom), bounds, bottom
