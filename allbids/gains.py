"""Gains, what is taken at prices and beside them, and how gains bend along lines."""

from allbids.checks import are_kinds, are_prices, is_row, told_row
from allbids.errors import BadRow, Unlike
from allbids.ratios import is_whole, lowest, minus, plus, times
from allbids.scales import ascending, common_bottom, ratios_of, scaled_bids, scaled_row

NOTHING = -1


def gain(bids, prices):
    """The gain of a list at prices."""
    rows, at, bottom = on_grid(bids, prices)
    return lowest(gain_on(rows, at), bottom)


def best(numbers, prices):
    """The kinds that are best for a bid at prices, with -1 for nothing."""
    if not are_prices(prices, len(numbers)):
        raise BadRow(prices)
    most, least = told_row(numbers), told_row(prices)
    bottom = common_bottom(most + least)
    return best_on(scaled_row(most, bottom), scaled_row(least, bottom))


def taken(bids, prices):
    """The bundle of what all bids take at prices; None if some bid has two bests."""
    rows, at, _ = on_grid(bids, prices)
    units = [0] * bids.kinds
    for weight, numbers in rows:
        bests = best_on(numbers, at)
        if len(bests) > 1:
            return None
        if bests[0] != NOTHING:
            units[bests[0]] += weight
    return tuple(units)


def slope(bids, prices, way):
    """How fast the gain grows from prices along a way."""
    rows, at, _ = on_grid(bids, prices)
    if not is_way(way, at):
        raise BadRow(way)
    total = 0
    for weight, numbers in rows:
        steps = [0 if kind == NOTHING else -way[kind] for kind in best_on(numbers, at)]
        total += weight * max(steps)
    return total


def most_of(bids, prices, kinds):
    """The units of a set of kinds that are taken when its prices are a little lower."""
    return sum([weight for weight, inside in ties_with(bids, prices, kinds) if any(inside)])


def least_of(bids, prices, kinds):
    """The units of a set of kinds that are taken when its prices are a little higher."""
    return sum([weight for weight, inside in ties_with(bids, prices, kinds) if all(inside)])


def bends(bids, low, high):
    """Where, and by how much, the slope of the gain changes between two rows of prices."""
    start = checked_prices(bids, low)
    end = checked_prices(bids, high)
    bottom = common_bottom(ratios_of(bids) + list(start + end))
    first, last = scaled_row(start, bottom), scaled_row(end, bottom)
    changes = {}
    for weight, numbers in scaled_bids(bids, bottom):
        for place, change in turns_between(numbers, first, last):
            changes[place] = changes.get(place, 0) + weight * change
    places = ascending([(place,) for place in changes if changes[place] != 0])
    return tuple([(row[0], lowest(changes[row[0]], bottom)) for row in places])


def convex_at(bids, low, middle, high):
    """Whether the gain at middle is at most that on the straight line from low to high."""
    start = checked_prices(bids, low)
    between = checked_prices(bids, middle)
    end = checked_prices(bids, high)
    part = part_between(start, between, end)
    if part is None:
        raise Unlike("line")
    first, last = gain(bids, start), gain(bids, end)
    straight = plus(first, times(part, minus(last, first)))
    return minus(gain(bids, between), straight)[0] <= 0


def checked_prices(bids, prices):
    """Prices, told as pairs; BadRow for what are none."""
    if not are_prices(prices, bids.kinds):
        raise BadRow(prices)
    return told_row(prices)


def on_grid(bids, prices):
    """The bids and the prices as whole numbers over one bottom, and this bottom."""
    pairs = checked_prices(bids, prices)
    bottom = common_bottom(ratios_of(bids) + list(pairs))
    return scaled_bids(bids, bottom), scaled_row(pairs, bottom), bottom


def gain_on(rows, prices):
    """The gain of bids at prices, all of whole numbers."""
    total = 0
    for weight, numbers in rows:
        total += weight * max(0, max([numbers[k] - prices[k] for k in range(len(prices))]))
    return total


def best_on(numbers, prices):
    """As best tells it, for numbers and prices that are whole."""
    margins = [(numbers[k] - prices[k], k) for k in range(len(numbers)) if numbers[k] > 0]
    top = max([margin for margin, _ in margins], default=-1)
    if top < 0:
        return (NOTHING,)
    bests = tuple([kind for margin, kind in margins if margin == top])
    if top == 0:
        return (NOTHING,) + bests
    return bests


def is_way(way, prices):
    """Whether any value is a way from these prices that leads to no price below 0."""
    if not is_row(way, len(prices)) or not all([is_whole(step) for step in way]):
        return False
    return all([way[k] >= 0 or prices[k] > 0 for k in range(len(prices))])


def ties_with(bids, prices, kinds):
    """For each bid its weight and, for each of its bests, whether this is a kind of the set."""
    rows, at, _ = on_grid(bids, prices)
    if not are_kinds(kinds, bids.kinds):
        raise BadRow(kinds)
    return [(weight, [kind in kinds for kind in best_on(numbers, at)]) for weight, numbers in rows]


def turns_between(numbers, start, end):
    """The pairs (t, change) of one bid with the weight 1 on the line from start to end, all of whole numbers."""
    wanted = [k for k in range(len(numbers)) if numbers[k] > 0]
    lines = [(0, 0)] + [(numbers[k] - start[k], start[k] - end[k]) for k in wanted]
    turns = []
    for top, bottom in crossings(lines):
        heights = [height * bottom + rise * top for height, rise in lines]
        best_height = max(heights)
        rises = [lines[k][1] for k in range(len(lines)) if heights[k] == best_height]
        if min(rises) < max(rises):
            turns.append(((top, bottom), max(rises) - min(rises)))
    return turns


def crossings(lines):
    """The ratios strictly between 0 and 1 at which two of the lines, pairs (height, rise), cross."""
    found = {}
    for height, rise in lines:
        for other_height, other_rise in lines:
            down, up = height - other_height, other_rise - rise
            if 0 < down < up:
                found[lowest(down, up)] = True
    return list(found)


def part_between(start, between, end):
    """The ratio t strictly between 0 and 1 with between = start + t * (end - start); None if there is none."""
    part = (1, 2)
    for k in range(len(start)):
        if start[k] != end[k]:
            part = quotient(minus(between[k], start[k]), minus(end[k], start[k]))
    if not 0 < part[0] < part[1]:
        return None
    line = [plus(start[k], times(part, minus(end[k], start[k]))) for k in range(len(start))]
    if tuple(line) != between:
        return None
    return part


def quotient(one, other):
    """One ratio over another one that is not 0, both told as pairs."""
    top, bottom = one[0] * other[1], one[1] * other[0]
    if bottom < 0:
        return lowest(-top, -bottom)
    return lowest(top, bottom)
