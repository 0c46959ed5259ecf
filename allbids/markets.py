"""Markets of several buyers: all prices that clear, and who gets what."""

from allbids.bids import Bids
from allbids.bounds import added, lesser
from allbids.checks import check_same_kinds, is_bundle
from allbids.errors import BadNumber, BadRow
from allbids.gains import on_grid
from allbids.leasts import prices_around, region_by
from allbids.ratios import told
from allbids.scales import told_tops
from allbids.sums import part_against, parts_of, some_bundle, sums_at, units_of
from allbids.worths import check_buyer, climbed, whole_bids, worth


class Market:
    """Buyers, lists of bids of as many kinds, and a supply of so many units of each kind."""

    def __init__(self, buyers, supply):
        if len(buyers) == 0:
            raise BadNumber("buyers", 0)
        for bids in buyers:
            check_same_kinds(buyers[0], bids)
        if not is_bundle(supply, buyers[0].kinds):
            raise BadRow(supply)
        for bids in buyers:
            check_buyer(bids)
        self.buyers = tuple(buyers)
        self.supply = tuple(supply)
        self.kinds = buyers[0].kinds


def least_prices(market):
    """The least prices that clear a market."""
    rows, bottom = whole_bids(all_bids(market))
    return told_tops(climbed(rows, market.supply), bottom)


def clearing(market):
    """The Region of all prices that clear a market."""
    rows, bottom = whole_bids(all_bids(market))
    return region_by(prices_around(rows, market.supply), market.supply, bottom)


def whole_worth(market):
    """The greatest sum of worths of bundles that a market can give to its buyers."""
    return worth(all_bids(market), market.supply)


def dealt(market, prices):
    """Bundles for all buyers that clear a market at prices; None if there are none."""
    sums = sums_of_market(market, prices)
    least, most = added_sums(sums, market.kinds)
    left = market.supply
    if part_against(least, most, left) is not None:
        return None
    # Whatever the sums of some buyers together are not against can be dealt out to them.
    bundles = []
    for at in range(len(sums)):
        low, high = sums_within(sums[at], added_sums(sums[at + 1:], market.kinds), left)
        bundle = some_bundle(low, high, market.kinds)
        bundles.append(bundle)
        left = tuple([units - given for units, given in zip(left, bundle)])
    return tuple(bundles)


def clears(market, prices, bundles):
    """Whether any value is a tuple of bundles that clear a market at prices."""
    sums = sums_of_market(market, prices)
    if not isinstance(bundles, tuple) or len(bundles) != len(sums):
        return False
    if not all([isinstance(bundle, tuple) and is_bundle(bundle, market.kinds) for bundle in bundles]):
        return False
    if any([part_against(least, most, bundle) is not None for (least, most), bundle in zip(sums, bundles)]):
        return False
    left = [units - sum([bundle[k] for bundle in bundles]) for k, units in enumerate(market.supply)]
    return all([units == 0 or units > 0 and is_free(price) for units, price in zip(left, prices)])


def all_bids(market):
    """The list of all bids of all buyers."""
    return joined(market.kinds, market.buyers)


def joined(kinds, lists):
    """The list of all bids of some lists, perhaps none, for so many kinds."""
    total = Bids(kinds, [])
    for bids in lists:
        total = total + bids
    return total


def is_free(price):
    """Whether a price is 0."""
    return told(price, "price")[0] == 0


def sums_of_market(market, prices):
    """For each buyer the sums of bound and of open weights at prices; None for the open ones of all sets with a kind
    that costs nothing, as further units of it do not matter."""
    found = []
    for bids in market.buyers:
        rows, at, _ = on_grid(bids, prices)
        least, most = sums_at(rows, at)
        for part in least:
            if min([at[kind] for kind in part]) == 0:
                most[part] = None
        found.append((least, most))
    return found


def added_sums(sums, kinds):
    """The sums of several buyers together."""
    least = {part: 0 for part in parts_of(kinds)}
    most = {part: 0 for part in parts_of(kinds)}
    for low, high in sums:
        for part in parts_of(kinds):
            least[part] += low[part]
            most[part] = added(most[part], high[part])
    return least, most


def sums_within(one, rest, left):
    """The sums for the bundle of one buyer that leave to the rest of them what they take of what is left."""
    low, high = {}, {}
    for part in one[0]:
        units = units_of(left, part)
        low[part] = one[0][part]
        if rest[1][part] is not None:
            low[part] = max(low[part], units - rest[1][part])
        high[part] = lesser(one[1][part], units - rest[0][part])
    return low, high
