"""Walls and their weights, cells, and what bars a list from being a buyer."""

from allbids.checks import frozen, is_kind, told_row
from allbids.errors import BadRow, Unlike
from allbids.planes import (
    GRAIN, GROUND, cells_on, height_over, is_plain, low_spot, padded, planes_of, turning_weight)
from allbids.ratios import is_ratio, lowest, told
from allbids.scales import common_bottom, ratios_of, scaled, scaled_bids, scaled_row, told_tops


class Barrier:
    """Plain prices on a wall at which its weight is below 0, and this weight."""

    def __init__(self, wall, place, weight):
        self.wall = frozen(wall)
        self.place = frozen(place)
        self.weight = weight


def walls(bids):
    """All walls that have a weight other than 0 somewhere."""
    rows, bottom = grained(bids, [])
    # In a plain list no two bids that turn on one plane do so at just the same prices, so each plane
    # has a weight other than 0 somewhere.
    return tuple([told_plane(plane, bottom) for plane in planes_of(rows)])


def weight_at(bids, wall, prices):
    """The weight of a wall at plain prices."""
    i, j, number = read_plane(wall, bids.kinds)
    pairs = told_row(prices)
    rows, bottom = grained(bids, list(pairs) + [number])
    plane = (i, j, scaled(number, bottom))
    place = with_four(scaled_row(pairs, bottom))
    if not is_plain(planes_of(rows), plane, place):
        raise Unlike("place")
    return turning_weight(rows, plane, place)


def cells(bids, wall):
    """For each cell of a wall plain prices in it, and the weight there."""
    i, j, number = read_plane(wall, bids.kinds)
    rows, bottom = grained(bids, [number])
    plane = (i, j, scaled(number, bottom))
    places = cells_on(rows, plane, planes_of(rows))
    return tuple([(told_place(bids, place, bottom), turning_weight(rows, plane, place)) for place in places])


def is_buyer(bids):
    """Whether a list is a buyer."""
    rows, _ = grained(bids, [])
    return low_spot(rows, (0, 0, 0)) is None


def barrier(bids):
    """None for a buyer, otherwise a Barrier."""
    return barrier_above(bids, (0,) * bids.kinds)


def barrier_above(bids, prices):
    """None if the gain is convex on all prices from these on, otherwise a Barrier above them."""
    pairs = told_row(prices)
    rows, bottom = grained(bids, list(pairs))
    found = low_spot(rows, padded(scaled_row(pairs, bottom))[:GROUND])
    if found is None:
        return None
    plane, place = found
    return Barrier(told_plane(plane, bottom), told_place(bids, place, bottom), turning_weight(rows, plane, place))


def bent_prices(bids):
    """None for a buyer, otherwise three prices on a line at which the gain is not convex."""
    rows, bottom = grained(bids, [])
    found = low_spot(rows, (0, 0, 0))
    if found is None:
        return None
    plane, place = found
    kind = plane[0]
    step = step_beside(planes_of(rows), plane, place)
    low = place[:kind] + (place[kind] - step,) + place[kind + 1:]
    high = place[:kind] + (place[kind] + step,) + place[kind + 1:]
    return (told_place(bids, low, bottom), told_place(bids, place, bottom), told_place(bids, high, bottom))


def step_beside(planes, plane, place):
    """How far the price of a plane's first kind can go both ways without a price below 0, or crossing
    another plane."""
    kind = plane[0]
    crossed = [other for other in planes if other != plane and kind in other[:2]]
    return min([place[kind]] + [abs(height_over(other, place)) for other in crossed])


def grained(bids, ratios):
    """The bids in whole numbers, multiples of GRAIN with four places, over a bottom that is told with them and
    fits for further ratios too."""
    bottom = GRAIN * common_bottom(ratios_of(bids) + ratios)
    return padded_bids(bids, bottom), bottom


def grained_lists(lists):
    """For each of some lists its bids in whole numbers, as grained tells them, over one bottom for all lists, and
    this bottom."""
    bottom = GRAIN * common_bottom([ratio for bids in lists for ratio in ratios_of(bids)])
    return [padded_bids(bids, bottom) for bids in lists], bottom


def padded_bids(bids, bottom):
    """The bids of a list with four places, their numbers as tops over this bottom."""
    return [(weight, padded(numbers)) for weight, numbers in scaled_bids(bids, bottom)]


def with_four(prices):
    """Prices with four places, those of kinds that the list lacks being above 0."""
    return prices + (1,) * (GROUND - len(prices)) + (0,)


def told_plane(plane, bottom):
    """A plane as a wall."""
    i, j, number = plane
    if j == GROUND:
        return ("at", i, lowest(number, bottom))
    return ("as", i, j, lowest(number, bottom))


def told_place(bids, place, bottom):
    """Prices with four places as ratios, one for each kind."""
    return told_tops(place[:bids.kinds], bottom)


def read_plane(wall, kinds):
    """The plane (i, j, c), c a ratio, that any value tells as a wall; BadRow for what is none."""
    if isinstance(wall, (tuple, list)) and len(wall) == 3 and wall[0] == "at":
        if is_kind(wall[1], kinds) and is_ratio(wall[2]):
            number = told(wall[2], "ratio")
            if number[0] > 0:
                return wall[1], GROUND, number
    if isinstance(wall, (tuple, list)) and len(wall) == 4 and wall[0] == "as":
        if is_kind(wall[1], kinds) and is_kind(wall[2], kinds) and wall[1] < wall[2] and is_ratio(wall[3]):
            return wall[1], wall[2], told(wall[3], "ratio")
    raise BadRow(wall)
