"""What a seller gets at most from a buyer, at told prices and at all prices."""

from allbids.checks import are_prices, frozen, is_bundle, told_row
from allbids.demand import sums_above
from allbids.errors import BadRow
from allbids.leasts import fewer_of, taken_within
from allbids.making import most_units
from allbids.ratios import lowest
from allbids.scales import common_bottom, ratios_of, scaled_bids, scaled_row, told_tops
from allbids.worths import check_buyer


class Revenue:
    """The greatest that a seller gets, and prices and a bundle with which it does."""

    def __init__(self, number, prices, bundle):
        self.number = frozen(number)
        self.prices = frozen(prices)
        self.bundle = frozen(bundle)


def gets(bids, costs, prices):
    """The greatest that the seller gets at prices above 0."""
    check_seller(bids, costs)
    least, most = sums_above(bids, prices)
    pairs, at = told_row(costs), told_row(prices)
    bottom = common_bottom(list(pairs + at))
    margins = [price - cost for price, cost in zip(scaled_row(at, bottom), scaled_row(pairs, bottom))]
    # As much as can be of what brings most, as little as can be of what loses most; both fit together.
    order = [kind for _, kind in sorted([(-abs(margin), kind) for kind, margin in enumerate(margins)])]
    won = sold([kind for kind in order if margins[kind] > 0], margins, most)
    lost = sold([kind for kind in order if margins[kind] < 0], margins, least)
    return lowest(won + lost, bottom)


def best_revenue(bids, costs):
    """The Revenue at all prices above 0."""
    check_seller(bids, costs)
    return best_up_to(bids, costs, most_units(bids))


def best_within(bids, costs, supply):
    """The Revenue at all prices above 0, with bundles that a supply is enough for."""
    check_seller(bids, costs)
    if not is_bundle(supply, bids.kinds):
        raise BadRow(supply)
    return best_up_to(bids, costs, tuple(supply))


def check_seller(bids, costs):
    """NoBuyer for a list that is none, BadRow for what are no costs."""
    check_buyer(bids)
    if not are_prices(costs, bids.kinds):
        raise BadRow(costs)


def sold(kinds, margins, sums):
    """What units of some kinds bring if the first kinds, together, always have as many units as sums tell."""
    total, ahead = 0, 0
    for at in range(len(kinds)):
        units = sums[tuple(sorted(kinds[:at + 1]))]
        total += margins[kinds[at]] * (units - ahead)
        ahead = units
    return total


def best_up_to(bids, costs, caps):
    """The Revenue with bundles that have no more units of any kind than caps tell."""
    bottom = common_bottom(ratios_of(bids) + list(told_row(costs)))
    rows, lost = scaled_bids(bids, bottom), scaled_row(told_row(costs), bottom)
    least = taken_within(rows, caps, None)
    number, bundle = max([(brought(least, bundle, lost), bundle) for bundle in least])
    return Revenue(lowest(number, bottom), told_tops(high_prices(rows, least, bundle), bottom), bundle)


def brought(least, bundle, costs):
    """The greatest that a seller gets with a taken bundle: of each of its kinds, the price is as high as with one
    unit less of it the least price is."""
    return sum([bundle[kind] * (least[fewer][kind] - costs[kind]) for kind, fewer in fewer_of(bundle)])


def high_prices(rows, least, bundle):
    """Prices at which a seller gets the most with a taken bundle, those of other kinds being above what any bid
    gives."""
    prices = [1 + max([number for _, numbers in rows for number in numbers], default=0)] * len(bundle)
    for kind, fewer in fewer_of(bundle):
        prices[kind] = least[fewer][kind]
    return tuple(prices)
