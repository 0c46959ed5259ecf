"""What a buyer demands at prices, and at which prices it demands a bundle."""

from allbids.checks import are_prices, is_bundle, told_row
from allbids.errors import BadRow
from allbids.gains import on_grid
from allbids.leasts import MOST_TAKEN, is_taken, prices_around, region_by, taken_prices
from allbids.sums import bundles_within, part_against, sums_at
from allbids.worths import check_buyer, whole_bids


def demanded(bids, prices, bundle):
    """Whether a buyer demands a bundle at prices above 0."""
    return against(bids, prices, bundle) is None


def against(bids, prices, bundle):
    """None if a bundle is demanded; otherwise a set of kinds of which it has too many units, or too few."""
    least, most = sums_of_buyer(bids, prices)
    check_bundle(bids, bundle)
    return part_against(least, most, bundle)


def demand(bids, prices):
    """All bundles that a buyer demands at prices above 0."""
    least, most = sums_of_buyer(bids, prices)
    return bundles_within(least, most, bids.kinds, MOST_TAKEN)


def region_of(bids, bundle):
    """The Region of a taken bundle; None for a bundle that is not taken."""
    check_buyer(bids)
    check_bundle(bids, bundle)
    rows, bottom = whole_bids(bids)
    units = tuple(bundle)
    prices = prices_around(rows, units)
    if not is_taken(prices, units):
        return None
    return region_by(prices, units, bottom)


def demand_map(bids):
    """All taken bundles, each with its region."""
    check_buyer(bids)
    rows, bottom = whole_bids(bids)
    prices = taken_prices(rows, bids.kinds)
    return tuple([(bundle, region_by(prices, bundle, bottom)) for bundle in sorted(list(prices))])


def sums_of_buyer(bids, prices):
    """The sums of bound and of open weights of a buyer at prices above 0."""
    check_buyer(bids)
    return sums_above(bids, prices)


def sums_above(bids, prices):
    """The sums of bound and of open weights at prices above 0; BadRow for what are none."""
    if not are_prices(prices, bids.kinds) or min(told_row(prices))[0] == 0:
        raise BadRow(prices)
    rows, at, _ = on_grid(bids, prices)
    return sums_at(rows, at)


def check_bundle(bids, bundle):
    """BadRow for what is no bundle of as many kinds."""
    if not is_bundle(bundle, bids.kinds):
        raise BadRow(bundle)
