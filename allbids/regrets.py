"""Regret at all prices of a region: how much more a buyer could have than with a bundle."""

from allbids.bounds import corners_of
from allbids.checks import are_prices, check_same_kinds, frozen
from allbids.demand import check_bundle
from allbids.errors import BadRow
from allbids.gains import gain_on, on_grid
from allbids.leasts import taken_prices
from allbids.ratios import lowest
from allbids.regions import whole_bounds
from allbids.scales import ratios_of, scaled_bids, told_tops
from allbids.worths import check_buyer, climbed, cost_of, gain_and_cost


class Worst:
    """The greatest regret of a bundle, and prices at which it is so."""

    def __init__(self, number, prices):
        self.number = frozen(number)
        self.prices = frozen(prices)


class Choice:
    """The least of all greatest regrets, and all bundles that have it."""

    def __init__(self, number, bundles):
        self.number = frozen(number)
        self.bundles = frozen(bundles)


def regret(bids, prices, bundle):
    """The regret of a bundle at prices."""
    check_buyer(bids)
    if not are_prices(prices, bids.kinds):
        raise BadRow(prices)
    check_bundle(bids, bundle)
    rows, at, bottom = on_grid(bids, prices)
    return lowest(gain_and_cost(rows, at, bundle) - whole_worth_of(rows, bundle), bottom)


def corners(region):
    """All prices of a region that do not lie between two others of it, ascending."""
    bounds, bottom = whole_bounds(region, [])
    return tuple([told_tops(prices, bottom) for prices in sorted(corners_of(bounds))])


def worst_regret(bids, bundle, region):
    """The Worst regret of a bundle at any prices of a region; None if it grows without end."""
    check_buyer(bids)
    check_bundle(bids, bundle)
    check_same_kinds(bids, region)
    if is_endless(region, bundle):
        return None
    rows, gains, bottom = corner_gains(bids, region)
    most, prices = greatest_at(gains, bundle)
    return Worst(lowest(most - whole_worth_of(rows, bundle), bottom), told_tops(prices, bottom))


def least_worst(bids, region):
    """The Choice of all taken bundles whose worst regret in a region is least."""
    check_buyer(bids)
    check_same_kinds(bids, region)
    rows, gains, bottom = corner_gains(bids, region)
    least = taken_prices(rows, bids.kinds)
    worst = {}
    for bundle in sorted(list(least)):
        if not is_endless(region, bundle):
            worst[bundle] = greatest_at(gains, bundle)[0] - gain_and_cost(rows, least[bundle], bundle)
    number = min(worst.values())
    return Choice(lowest(number, bottom), [bundle for bundle in worst if worst[bundle] == number])


def is_endless(region, bundle):
    """Whether the regret of a bundle grows without end in a region: what it costs does, and no gain can grow so."""
    return any([units > 0 and high is None for units, high in zip(bundle, region.highs)])


def corner_gains(bids, region):
    """The bids, for each corner of a region a pair of the gain and the prices there, all in whole numbers, and their
    bottom."""
    bounds, bottom = whole_bounds(region, ratios_of(bids))
    rows = scaled_bids(bids, bottom)
    return rows, [(gain_on(rows, prices), prices) for prices in corners_of(bounds)], bottom


def greatest_at(gains, bundle):
    """The greatest sum of the gain and the cost of a bundle at any corner, and the prices there."""
    return max([(here + cost_of(bundle, prices), prices) for here, prices in gains])


def whole_worth_of(rows, bundle):
    """The worth of a bundle in whole numbers."""
    return gain_and_cost(rows, climbed(rows, bundle), bundle)
