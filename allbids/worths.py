"""Worths of bundles, tables of worths, and the lists that go with tables."""

from allbids.bids import Bids
from allbids.bounds import corners_of, lesser, no_bounds, tight
from allbids.checks import frozen, is_bundle, subsets
from allbids.errors import BadNumber, BadRow, NoBuyer, TooMany
from allbids.gains import gain_on
from allbids.ratios import lowest, told
from allbids.scales import common_bottom, ratios_of, scaled, scaled_bids, told_tops
from allbids.walls import is_buyer

MOST_BUNDLES = 125


class Worths:
    """A table: a number for each bundle of a box."""

    def __init__(self, caps, numbers):
        if not isinstance(caps, (tuple, list)) or not 1 <= len(caps) <= 3 or not is_bundle(caps, len(caps)):
            raise BadRow(caps)
        check_box(caps)
        if len(numbers) != box_size(caps):
            raise BadNumber("numbers", len(numbers))
        self.caps = tuple(caps)
        self.numbers = tuple([told(number, "worth") for number in numbers])

    def __eq__(self, other):
        return isinstance(other, Worths) and self.caps == other.caps and self.numbers == other.numbers

    def at(self, bundle):
        """The number at a bundle of the box."""
        if not is_bundle(bundle, len(self.caps)):
            raise BadRow(bundle)
        place = 0
        for units, cap in zip(bundle, self.caps):
            if units > cap:
                raise BadRow(bundle)
            place = place * (cap + 1) + units
        return self.numbers[place]


class Breach:
    """Two bundles, and a kind of which the first one has more, for which a table breaks the exchange rule."""

    def __init__(self, one, other, kind):
        self.one = frozen(one)
        self.other = frozen(other)
        self.kind = kind


def worth(bids, bundle):
    """The worth that a buyer has of a bundle."""
    rows, prices, bottom = least_point(bids, bundle)
    return lowest(gain_and_cost(rows, prices, bundle), bottom)


def worth_prices(bids, bundle):
    """Prices at which the gain and the cost of a bundle come to its worth together."""
    _, prices, bottom = least_point(bids, bundle)
    return told_tops(prices, bottom)


def table_of(bids, caps):
    """The table of the worths that a buyer has of all bundles of a box."""
    check_buyer(bids)
    if not is_bundle(caps, bids.kinds):
        raise BadRow(caps)
    check_box(caps)
    table, bottom = worths_in(bids, caps)
    return Worths(caps, told_tops(list(table.values()), bottom))


def falls(worths):
    """The first bundle and kind at which one unit more lowers the number; None if there is none."""
    table, _ = whole_table(worths)
    for bundle in box(worths.caps):
        for kind in range(len(bundle)):
            more = moved(bundle, kind, 1)
            if more in table and table[more] < table[bundle]:
                return (bundle, kind)
    return None


def exchange(worths):
    """None if a table holds the exchange rule, otherwise a Breach."""
    table, _ = whole_table(worths)
    bundles = box(worths.caps)
    for one in bundles:
        for other in bundles:
            for kind in range(len(one)):
                if one[kind] > other[kind] and not exchanges(table, one, other, kind):
                    return Breach(one, other, kind)
    return None


def list_of(worths):
    """The list of bids that goes with a table."""
    if worths.numbers[0][0] != 0 or falls(worths) is not None or exchange(worths) is not None:
        raise NoBuyer()
    table, bottom = whole_table(worths)
    return bids_by(table, worths.caps, bottom)


def check_buyer(bids):
    """NoBuyer for a list that is none."""
    if not is_buyer(bids):
        raise NoBuyer()


def box_size(caps):
    """How many bundles a box has."""
    size = 1
    for cap in caps:
        size = size * (cap + 1)
    return size


def check_box(caps):
    """TooMany for a box of too many bundles."""
    if box_size(caps) > MOST_BUNDLES:
        raise TooMany("bundles", MOST_BUNDLES)


def box(caps):
    """All bundles of a box, ascending."""
    bundles = [()]
    for cap in caps:
        bundles = [bundle + (units,) for bundle in bundles for units in range(cap + 1)]
    return bundles


def moved(bundle, kind, units):
    """A bundle with so many units more of a kind."""
    return bundle[:kind] + (bundle[kind] + units,) + bundle[kind + 1:]


def whole_bids(bids):
    """The bids in whole numbers, and their bottom."""
    bottom = common_bottom(ratios_of(bids))
    return scaled_bids(bids, bottom), bottom


def whole_table(worths):
    """The numbers of a table by bundles, as whole numbers, and their bottom."""
    bottom = common_bottom(worths.numbers)
    tops = [scaled(number, bottom) for number in worths.numbers]
    return dict(zip(box(worths.caps), tops)), bottom


def worths_in(bids, caps):
    """The worths that a buyer has of all bundles of a box, by bundles, as whole numbers, and their bottom."""
    rows, bottom = whole_bids(bids)
    return table_by(rows, caps), bottom


def table_by(rows, caps):
    """The worths of all bundles of a box, by bundles, in whole numbers."""
    return {bundle: gain_and_cost(rows, climbed(rows, bundle), bundle) for bundle in box(caps)}


def bids_by(table, caps, bottom):
    """The list of bids that goes with a table of a buyer, its numbers by bundles and over this bottom."""
    places = [prices for prices in corner_prices(table, caps) if any(prices)]
    return Bids(len(caps), [(weight_by(table, prices), told_tops(prices, bottom)) for prices in places])


def least_point(bids, bundle):
    """The bids and prices as worth_prices tells them, in whole numbers, and their bottom."""
    check_buyer(bids)
    if not is_bundle(bundle, bids.kinds):
        raise BadRow(bundle)
    rows, bottom = whole_bids(bids)
    return rows, climbed(rows, bundle), bottom


def gain_and_cost(rows, prices, bundle):
    """The gain and the cost of a bundle together, in whole numbers."""
    return gain_on(rows, prices) + cost_of(bundle, prices)


def cost_of(bundle, prices):
    """The cost of a bundle."""
    return sum([units * price for units, price in zip(bundle, prices)])


def climbed(rows, bundle):
    """The least prices at which the gain and the cost of a bundle together are least. As rows are a buyer,
    this sum is least where raising no set of prices lowers it, if the set that lowers it most, and is least
    among such, was always raised, and no further than up to the next bend."""
    prices = (0,) * len(bundle)
    parts = subsets(list(range(len(bundle))))[1:]
    while True:
        margins = [(weight, [number - price for number, price in zip(numbers, prices)]) for weight, numbers in rows]
        rises = [rise(margins, bundle, part) for part in parts]
        steepest = min([slope for slope, _ in rises])
        if steepest >= 0:
            return prices
        # A set stands behind all sets within it, so the first one is the least one.
        at = [slope for slope, _ in rises].index(steepest)
        prices = raised(prices, parts[at], rises[at][1])


def raised(prices, part, step):
    """Prices of which those of a set of kinds are higher by a step."""
    return tuple([prices[k] + step if k in part else prices[k] for k in range(len(prices))])


def rise(margins, bundle, part):
    """How fast the gain and the cost of a bundle together grow when the prices of a set of kinds rise, and how
    far they do so as fast; None for without end."""
    slope = sum([bundle[k] for k in part])
    step = None
    for weight, row in margins:
        inside = max([row[k] for k in part])
        outside = max([0] + [row[k] for k in range(len(row)) if k not in part])
        if inside > outside:
            slope -= weight
            step = lesser(step, inside - outside)
    return slope, step


def exchanges(table, one, other, kind):
    """Whether the exchange rule holds for two bundles and a kind of which the first one has more."""
    have = table[one] + table[other]
    fewer, more = moved(one, kind, -1), moved(other, kind, 1)
    if have <= table[fewer] + table[more]:
        return True
    given = [j for j in range(len(one)) if other[j] > one[j]]
    return any([have <= table[moved(fewer, j, 1)] + table[moved(more, j, -1)] for j in given])


def corner_prices(table, caps):
    """All prices at which no other prices near them, 0 where they are 0, have the same greatest bundles, and
    perhaps more. Each of them is a corner of the set of prices at which some bundle is among the greatest."""
    found = {}
    for bundle in table:
        for prices in corners_of(tight(bounds_at(table, caps, bundle))):
            found[prices] = True
    return sorted(list(found))


def bounds_at(table, caps, bundle):
    """The bounds of the prices from 0 on at which no bundle of a box leaves more than this one. As the table
    holds the exchange rule, the bundles beside it are enough."""
    zero = len(caps)
    rows = no_bounds(zero)
    for i in range(zero):
        more = moved(bundle, i, 1)
        rows[zero][i] = table[bundle] - table[more] if more in table else 0
        if bundle[i] > 0:
            fewer = moved(bundle, i, -1)
            rows[i][zero] = table[bundle] - table[fewer]
            for j in range(zero):
                other = moved(fewer, j, 1)
                if j != i and other in table:
                    rows[i][j] = table[bundle] - table[other]
    return rows


def weight_by(table, prices):
    """The weight of the bid with these prices as its numbers, for a table of a buyer."""
    left = {bundle: table[bundle] - sum([u * p for u, p in zip(bundle, prices)]) for bundle in table}
    most = max(left.values())
    greatest = [bundle for bundle in left if left[bundle] == most]
    total = 0
    for part in subsets([k for k in range(len(prices)) if prices[k] > 0]):
        fewest = min([(-sum([bundle[k] for k in part]), sum(bundle)) for bundle in greatest])[1]
        total += fewest if len(part) % 2 == 1 else -fewest
    return total
