"""Least prices of bundles of a buyer, and what they tell, in whole numbers.

The least prices of a bundle are the least ones at which the gain and its cost come to its worth together. A unit more
of a kind adds its least price to the worth.
"""

from allbids.bounds import lesser
from allbids.errors import TooMany
from allbids.regions import Region
from allbids.sums import parts_of, units_of
from allbids.worths import box, climbed, moved

MOST_TAKEN = 300


def lowered(rows, bundle, prices):
    """The least prices of a bundle, found from prices that are nowhere below them. The set of kinds along which
    gain and cost together fall fastest, or at least do not grow, is always lowered, and no further than down to
    the next bend: that never leads below the least prices."""
    while True:
        margins = [(weight, [number - price for number, price in zip(numbers, prices)]) for weight, numbers in rows]
        parts = [part for part in parts_of(len(prices)) if min([prices[k] for k in part]) > 0]
        drops = [drop(margins, bundle, part) for part in parts]
        steepest = min([slope for slope, _ in drops], default=1)
        if steepest > 0:
            return prices
        # A set stands behind all sets within it, so the last one makes fewer steps.
        at = max([k for k in range(len(drops)) if drops[k][0] == steepest])
        step = lesser(drops[at][1], min([prices[k] for k in parts[at]]))
        prices = tuple([prices[k] - step if k in parts[at] else prices[k] for k in range(len(prices))])


def drop(margins, bundle, part):
    """How fast the gain and the cost of a bundle together grow when the prices of a set of kinds fall, and how
    far they do so as fast; None for without end."""
    slope = -units_of(bundle, part)
    step = None
    for weight, row in margins:
        inside = max([row[k] for k in part])
        outside = max([0] + [row[k] for k in range(len(row)) if k not in part])
        if inside >= outside:
            slope += weight
        else:
            step = lesser(step, outside - inside)
    return slope, step


def taken_prices(rows, kinds):
    """The least prices of all taken bundles, by bundles; TooMany if there are more than MOST_TAKEN."""
    # No bundle that is taken has more units than this of any kind.
    units = sum([max(0, weight) for weight, _ in rows])
    return taken_within(rows, (units,) * kinds, MOST_TAKEN)


def taken_within(rows, caps, limit):
    """The least prices of all taken bundles with no more units of any kind than caps tell, by bundles; TooMany if
    there are more than limit, None being no limit."""
    nothing = (0,) * len(caps)
    found = {nothing: climbed(rows, nothing)}
    last = [nothing]
    while last:
        places = [(bundle, kind) for bundle in last for kind in range(len(caps)) if bundle[kind] < caps[kind]]
        grown = {moved(bundle, kind, 1): True for bundle, kind in places}
        last = [bundle for bundle in grown if is_taken(found, bundle)]
        if limit is not None and len(found) + len(last) > limit:
            raise TooMany("bundles", limit)
        for bundle in last:
            found[bundle] = lowered(rows, bundle, start_for(found, bundle))
    return found


def prices_in(rows, caps):
    """The least prices of all bundles of a box, by bundles, ascending."""
    found = {}
    for bundle in box(caps):
        if any(bundle):
            found[bundle] = lowered(rows, bundle, start_for(found, bundle))
        else:
            found[bundle] = climbed(rows, bundle)
    return found


def fewer_of(bundle):
    """All pairs of a kind of which a bundle has a unit, and the bundle with one unit less of it."""
    return [(kind, moved(bundle, kind, -1)) for kind in range(len(bundle)) if bundle[kind] > 0]


def is_taken(prices, bundle):
    """Whether a bundle is taken, by the least prices of all taken bundles, or of all bundles, with one unit less:
    each unit has to add to the worth."""
    return all([fewer in prices and prices[fewer][kind] > 0 for kind, fewer in fewer_of(bundle)])


def start_for(prices, bundle):
    """Prices that are nowhere below the least prices of a bundle: those of a bundle with one unit less never are."""
    rows = [prices[fewer] for _, fewer in fewer_of(bundle)]
    return tuple([min([row[kind] for row in rows]) for kind in range(len(bundle))])


def prices_around(rows, bundle):
    """The least prices of a bundle and of all bundles with one unit less, by bundles."""
    found = {bundle: climbed(rows, bundle)}
    for _, fewer in fewer_of(bundle):
        found[fewer] = climbed(rows, fewer)
    return found


def region_by(prices, bundle, bottom):
    """The Region of all prices at which the gain and the cost of a bundle come to its worth together, by the least
    prices of the bundle and of all with one unit less."""
    lows = [(low, bottom) for low in prices[bundle]]
    highs = [None] * len(bundle)
    gaps = []
    for i, fewer in fewer_of(bundle):
        ends = prices[fewer]
        highs[i] = (ends[i], bottom)
        gaps.extend([(i, j, (ends[i] - ends[j], bottom)) for j in range(len(bundle)) if j != i])
    return Region(lows, highs, gaps)
