"""Mixtures of lists that are buyers: which ones are, and what shows that no others are."""

from allbids.checks import check_same_kinds, frozen
from allbids.errors import BadRow, TooMany, Unlike
from allbids.mixtures import Mixture, barring, end_of, tightest, wall_and_place
from allbids.pivots import endless_factors, factors_of, greatest_sum, limit_prices, pivoted
from allbids.ratios import is_whole, less, lowest, plus, times
from allbids.walls import read_plane, weight_at

MOST_HELPERS = 6


class Reason:
    """A wall, prices that are plain on it for some lists, and the weights of these lists there."""

    def __init__(self, wall, place, numbers):
        self.wall = frozen(wall)
        self.place = frozen(place)
        self.numbers = frozen(numbers)


class Range:
    """The least and the greatest t for which a mixture is a buyer, and Reasons that bar all others."""

    def __init__(self, low, high, below, above):
        self.low = frozen(low)
        self.high = frozen(high)
        self.below = frozen(below)
        self.above = frozen(above)


class NoRange:
    """Reasons that no t keeps together."""

    def __init__(self, reasons):
        self.reasons = frozen(reasons)


class Mending:
    """The least sum of mending weights, such weights, and grounds that no lesser sum can be."""

    def __init__(self, number, weights, grounds):
        self.number = frozen(number)
        self.weights = frozen(weights)
        self.grounds = frozen(grounds)


class NoMending:
    """Grounds that there are no mending weights."""

    def __init__(self, grounds):
        self.grounds = frozen(grounds)


def buyer_range(one, other):
    """The Range of all t for which one + t * other is a buyer, or a NoRange."""
    check_same_kinds(one, other)
    mixture = Mixture([one, other])
    pairs = list(mixture.spots)
    barred = barring(pairs)
    if barred:
        return NoRange([reason_for(mixture, pair) for pair in barred])
    low, high = tightest(pairs, 1), tightest(pairs, -1)
    return Range(told_end(low), told_end(high), reason_for(mixture, low), reason_for(mixture, high))


def mended(bids, helpers):
    """The Mending of a list with helpers, or a NoMending."""
    mixture = Mixture(lists_to_mend(bids, helpers))
    rows = [numbers for numbers in mixture.spots if min(numbers) < 0]
    table, endless = pivoted([row[1:] for row in rows], [-row[0] for row in rows], len(helpers))
    if endless is not None:
        return NoMending(grounds_for(mixture, rows, endless_factors(table, endless)))
    return Mending(greatest_sum(table), limit_prices(table), grounds_for(mixture, rows, factors_of(table)))


def is_range(one, other, told):
    """Whether any value is what buyer_range may tell."""
    check_same_kinds(one, other)
    lists = [one, other]
    if isinstance(told, NoRange):
        return are_reasons(lists, told.reasons) and barring([reason.numbers for reason in told.reasons]) != ()
    if not isinstance(told, Range):
        return False
    pairs = list(Mixture(lists).spots)
    if barring(pairs):
        return False
    low, high = tightest(pairs, 1), tightest(pairs, -1)
    return is_end(lists, told.low, told.below, low, 1) and is_end(lists, told.high, told.above, high, -1)


def is_mending(bids, helpers, told):
    """Whether any value is what mended may tell."""
    lists = lists_to_mend(bids, helpers)
    if isinstance(told, Mending):
        return mends(lists, told) and shows_least(lists, told)
    if not isinstance(told, NoMending) or not are_grounds(lists, told.grounds):
        return False
    sums = sums_of(lists, told.grounds)
    return sums[0][0] < 0 and all([total[0] <= 0 for total in sums[1:]])


def lists_to_mend(bids, helpers):
    """A list and its helpers, checked."""
    for helper in helpers:
        check_same_kinds(bids, helper)
    if len(helpers) > MOST_HELPERS:
        raise TooMany("helpers", MOST_HELPERS)
    return [bids] + list(helpers)


def told_end(pair):
    """The end of a range that a pair of weights tells, None without one."""
    if pair is None:
        return None
    return end_of(pair)


def reason_for(mixture, numbers):
    """A Reason with these weights, None without them."""
    if numbers is None:
        return None
    wall, place = wall_and_place(mixture, numbers)
    return Reason(wall, place, numbers)


def grounds_for(mixture, rows, factors):
    """Grounds: the factors, by places of rows of weights, with Reasons."""
    return [(factors[place], reason_for(mixture, rows[place])) for place in sorted(list(factors))]


def is_told(value):
    """Whether any value is a ratio as it is told."""
    if not isinstance(value, tuple) or len(value) != 2 or not is_whole(value[0]) or not is_whole(value[1]):
        return False
    return value[1] > 0 and lowest(value[0], value[1]) == value


def are_told(value, many):
    """Whether any value is a tuple of so many ratios from 0 on, as they are told."""
    return isinstance(value, tuple) and len(value) == many and all([is_told(item) and item[0] >= 0 for item in value])


def tells_plane(value, kinds):
    """Whether any value is a wall as it is told."""
    if not isinstance(value, tuple) or value == () or not is_told(value[-1]):
        return False
    try:
        read_plane(value, kinds)
    except BadRow:
        return False
    return True


def is_reason(lists, value):
    """Whether any value is a Reason for these lists."""
    if not isinstance(value, Reason) or not tells_plane(value.wall, lists[0].kinds):
        return False
    if not are_told(value.place, lists[0].kinds) or not isinstance(value.numbers, tuple):
        return False
    try:
        weights = [weight_at(bids, value.wall, value.place) for bids in lists]
    except Unlike:
        return False
    return all([is_whole(number) for number in value.numbers]) and list(value.numbers) == weights


def are_reasons(lists, value):
    """Whether any value is a tuple of one or two Reasons for these lists."""
    return isinstance(value, tuple) and 1 <= len(value) <= 2 and all([is_reason(lists, item) for item in value])


def is_end(lists, number, reason, pair, sign):
    """Whether any two values are the end of a range that a pair of weights tells, and a Reason that bars all t beyond
    it; v of its weights (u, v) has this sign."""
    if pair is None:
        return number is None and reason is None
    if not is_told(number) or number != end_of(pair) or not is_reason(lists, reason):
        return False
    return reason.numbers[1] * sign > 0 and end_of(reason.numbers) == number


def is_ground(lists, value):
    """Whether any value is a pair of a factor and a Reason for these lists."""
    if not isinstance(value, tuple) or len(value) != 2:
        return False
    return is_told(value[0]) and value[0][0] >= 0 and is_reason(lists, value[1])


def are_grounds(lists, value):
    """Whether any value is a tuple of such pairs."""
    return isinstance(value, tuple) and all([is_ground(lists, item) for item in value])


def sums_of(lists, grounds):
    """For each list the sum of the factors times its weights."""
    sums = [(0, 1)] * len(lists)
    for factor, reason in grounds:
        sums = [plus(total, times(factor, number)) for total, number in zip(sums, reason.numbers)]
    return sums


def total_of(ratios):
    """The sum of ratios."""
    total = (0, 1)
    for ratio in ratios:
        total = plus(total, ratio)
    return total


def mends(lists, told):
    """Whether the weights of a Mending are mending weights with its number as their sum."""
    if not is_told(told.number) or not are_told(told.weights, len(lists) - 1) or total_of(told.weights) != told.number:
        return False
    for numbers in Mixture(lists).spots:
        parts = [times(weight, number) for weight, number in zip(told.weights, numbers[1:])]
        if less(total_of(parts), -numbers[0]):
            return False
    return True


def shows_least(lists, told):
    """Whether the grounds of a Mending show that there is no lesser sum."""
    if not are_grounds(lists, told.grounds):
        return False
    sums = sums_of(lists, told.grounds)
    return plus(sums[0], told.number) == (0, 1) and not any([less(1, total) for total in sums[1:]])
