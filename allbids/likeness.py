"""Lists held against one another, for all prices."""

from allbids.bounds import all_prices, corners_of
from allbids.checks import frozen
from allbids.gains import NOTHING, best, gain_on
from allbids.planes import GROUND, cells_on, planes_of
from allbids.ratios import lowest
from allbids.scales import told_tops
from allbids.walls import grained_lists
from allbids.worths import check_buyer, moved, whole_bids


class Less:
    """Clear prices, and a kind of which one list takes fewer units there."""

    def __init__(self, prices, kind):
        self.prices = frozen(prices)
        self.kind = kind


class Gap:
    """The most by which one gain is above another one, and prices at which it is."""

    def __init__(self, gap, prices):
        self.gap = frozen(gap)
        self.prices = frozen(prices)


def alike(one, other):
    """None if both lists have equal gains at all prices, otherwise prices at which they have not."""
    rest = difference(one, other)
    whole, bottom = whole_bids(rest)
    # Twice as fine, so that 1 is smaller than all numbers and all differences.
    rows = [(weight, [2 * number for number in numbers]) for weight, numbers in whole]
    for prices in prices_beside_top(rows):
        if gain_on(rows, prices) != 0:
            return told_tops(prices, 2 * bottom)
    return None


def never_below(one, other):
    """None if the gain of one is at least that of other at all prices, otherwise prices at which it is less."""
    least, prices, bottom = least_gain(difference(one, other))
    if least >= 0:
        return None
    return told_tops(prices, bottom)


def takes_no_less(one, other):
    """None if one takes at least as many units of each kind as other at all clear prices, otherwise a Less."""
    lists, bottom = grained_lists([difference(one, other), one, other])
    rest = lists[0]
    # Prices are to be clear for the bids that both lists have, too.
    planes = planes_of(lists[1] + lists[2])
    for plane in planes_of(rest):
        for prices in cells_on(rest, plane, planes):
            for kind in plane[:2]:
                if kind < GROUND and units_below(rest, prices, kind) < 0:
                    # Twice as fine, so that a step of 1 leads off this plane, and not onto another one.
                    below = moved(tuple([2 * price for price in prices]), kind, -1)
                    return Less(told_tops(below[:one.kinds], 2 * bottom), kind)
    return None


def greatest_gap(one, other):
    """By how much the gain of one is above that of other at most, and where."""
    least, prices, bottom = least_gain(difference(other, one))
    return Gap(lowest(-least, bottom), told_tops(prices, bottom))


def worths_below(one, other):
    """Of buyers, None if the worth of one is at least that of other at all bundles, otherwise a bundle at which it
    is less."""
    rest = difference(one, other)
    check_buyer(one)
    check_buyer(other)
    least, prices, bottom = least_gain(rest)
    if least >= 0:
        return None
    return bundle_beside(other, told_tops(prices, bottom))


def difference(one, other):
    """The list whose gain is that of one less that of other; Unlike for unlike kinds."""
    return one + -other


def least_gain(bids):
    """The least gain of a list at any prices, as a top, such prices as tops, and the bottom of all of these."""
    rows, bottom = whole_bids(bids)
    least, prices = least_within(rows, all_prices(bids.kinds))
    return least, prices, bottom


def least_within(rows, bounds):
    """The least gain of bids at any prices within tight bounds, and such prices. A gain is straight within each
    piece into which planes part these prices, and does not change without end."""
    return min([(gain_on(rows, prices), prices) for prices in corners_of(bounds, rows)])


def prices_beside_top(rows):
    """Prices at one of which the gain of bids is not 0, none if there are no bids; numbers are 0 or more than 1, and
    differ by more than 1. They are beside a bid with the greatest sum of numbers: each other bid has a lower number
    for some kind that this bid wants, and does not take this kind at any of them."""
    if not rows:
        return []
    _, top = max([(sum(numbers), numbers) for _, numbers in rows])
    found = [()]
    for number in top:
        ends = [number - 1, number + 1] if number > 0 else [0]
        found = [prices + (end,) for prices in found for end in ends]
    return found


def units_below(rows, prices, kind):
    """The units of a kind that bids take where its price is a little lower than these prices, with four places."""
    total = 0
    for weight, numbers in rows:
        margin = numbers[kind] - prices[kind]
        if margin == max([number - price for number, price in zip(numbers, prices)]):
            total += weight
    return total


def bundle_beside(bids, prices):
    """The bundle that a buyer takes where all prices are a little higher, those of later kinds more so."""
    units = (0,) * bids.kinds
    for weight, numbers in bids.rows:
        first = best(numbers, prices)[0]
        if first != NOTHING:
            units = moved(units, first, weight)
    return units
