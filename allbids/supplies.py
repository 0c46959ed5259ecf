"""Least prices of a buyer at all supplies."""

from allbids.checks import check_same_kinds, is_bundle, is_kind
from allbids.errors import BadNumber, BadRow, TooLarge, TooMany
from allbids.leasts import prices_in
from allbids.making import most_units
from allbids.ratios import is_whole, lowest
from allbids.scales import common_bottom, ratios_of, scaled_bids, told_tops
from allbids.worths import box, box_size, check_buyer, climbed, moved, whole_bids

MOST_STEPS = 100
MOST_SUPPLIES = 1000


def price_steps(bids, kind, supply, most):
    """The least price of a kind while its own supply goes from 0 to most: pairs (units, price)."""
    check_buyer(bids)
    if not is_kind(kind, bids.kinds):
        raise BadNumber("kind", kind)
    check_supply(bids, supply)
    if not is_whole(most) or most < 0:
        raise BadNumber("most", most)
    if most > MOST_STEPS:
        raise TooLarge("most", most, MOST_STEPS)
    rows, bottom = whole_bids(bids)
    start = moved(tuple(supply), kind, -supply[kind])
    way = moved((0,) * bids.kinds, kind, 1)
    steps = [(units, prices[kind]) for units, prices in prices_along(rows, start, way, most)]
    return tuple([(units, lowest(price, bottom)) for units, price in changes_in(steps)])


def line_steps(bids, supply, way):
    """All least prices at the supplies supply + n * way, for all n: pairs (n, prices)."""
    check_buyer(bids)
    check_supply(bids, supply)
    check_supply(bids, way)
    rows, bottom = whole_bids(bids)
    steps = prices_along(rows, supply, way, last_step(bids, supply, way))
    return tuple([(n, told_tops(prices, bottom)) for n, prices in changes_in(steps)])


def matters(bids, more, caps):
    """All supplies up to caps at which the least prices of a list change when more bids join it."""
    # The sum is what raises Unlike for lists of unlike kinds.
    both = bids + more
    check_buyer(bids)
    check_buyer(both)
    check_supply(bids, caps)
    if box_size(caps) > MOST_SUPPLIES:
        raise TooMany("supplies", MOST_SUPPLIES)
    # Units beyond the first ones from which on a kind costs nothing change nothing.
    room = room_of(bids, both)
    table = {supply: one != two for supply, one, two in prices_of_both(bids, both, lesser_row(caps, room))}
    return tuple([supply for supply in box(caps) if table[lesser_row(supply, room)]])


def never_dearer(one, other):
    """None if no least price of one is ever above that of other, otherwise the first supply at which one is."""
    check_two(one, other)
    for supply, first, second in prices_of_both(one, other, room_of(one, other)):
        if any([price > limit for price, limit in zip(first, second)]):
            return supply
    return None


def same_prices(one, other):
    """None if both lists have the same least prices at all supplies, otherwise the first supply at which not."""
    check_two(one, other)
    for supply, first, second in prices_of_both(one, other, room_of(one, other)):
        if first != second:
            return supply
    return None


def free_from(bids):
    """For each kind the least number of units from which on it costs nothing at any supply."""
    check_buyer(bids)
    return tuple(most_units(bids))


def check_supply(bids, supply):
    """BadRow for what is no row of integers from 0 on, one for each kind."""
    if not is_bundle(supply, bids.kinds):
        raise BadRow(supply)


def check_two(one, other):
    """Unlike for lists of unlike kinds, NoBuyer if one of them is none."""
    check_same_kinds(one, other)
    check_buyer(one)
    check_buyer(other)


def lesser_row(one, other):
    """The lesser number of two rows at each place."""
    return tuple([min(first, second) for first, second in zip(one, other)])


def room_of(one, other):
    """For each kind so many units that further ones change the least prices of neither of two buyers."""
    return [max(first, second) for first, second in zip(most_units(one), most_units(other))]


def prices_of_both(one, other, caps):
    """For each supply up to caps, ascending, a row of it and of the least prices of two buyers, in whole numbers."""
    bottom = common_bottom(ratios_of(one) + ratios_of(other))
    first = prices_in(scaled_bids(one, bottom), caps)
    second = prices_in(scaled_bids(other, bottom), caps)
    return [(supply, first[supply], second[supply]) for supply in first]


def last_step(bids, supply, way):
    """A number of steps from which on each kind that the way leads along costs nothing."""
    steps = 0
    for units, step, most in zip(supply, way, most_units(bids)):
        if step > 0:
            steps = max(steps, (most - units + step - 1) // step)
    return steps


def prices_along(rows, supply, way, last):
    """Pairs of n, ascending from 0, and the least prices at supply + n * way; at all n up to last that are left out,
    they are those at the n before. No least price rises on the way, so none changes between two equal rows."""
    found = {0: prices_behind(rows, supply, way, 0), last: prices_behind(rows, supply, way, last)}
    spans = [(0, last)]
    while spans:
        low, high = spans.pop()
        middle = (low + high) // 2
        if low < middle and found[low] != found[high]:
            found[middle] = prices_behind(rows, supply, way, middle)
            spans.extend([(low, middle), (middle, high)])
    return [(n, found[n]) for n in sorted(list(found))]


def prices_behind(rows, supply, way, n):
    """The least prices at supply + n * way."""
    return climbed(rows, tuple([units + n * step for units, step in zip(supply, way)]))


def changes_in(steps):
    """The pairs (place, value) whose value is not that of the pair before."""
    return [steps[at] for at in range(len(steps)) if at == 0 or steps[at][1] != steps[at - 1][1]]
