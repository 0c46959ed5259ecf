"""Weights that several lists have together in the cells of all their walls, and the bounds that these tell."""

from allbids.planes import cuts_of, planes_of, prices_at, spot_in, turning, turning_cells, turning_weight
from allbids.ratios import lowest
from allbids.walls import grained_lists, told_place, told_plane


class Mixture:
    """Some lists, and spots: for each row of weights that they have in some cell of a wall a pair of such a wall and
    cell."""

    def __init__(self, lists):
        self.lists = tuple(lists)
        self.grains, self.bottom = grained_lists(lists)
        self.spots = spots_of(self.grains)


def spots_of(grains):
    """The spots of a Mixture, the bids of each list in whole numbers with four places."""
    together = [row for rows in grains for row in rows]
    found = {}
    for plane in planes_of(together):
        bids = [turning(rows, plane) for rows in grains]
        for cell, prices in turning_cells(together, plane, (0, 0, 0)):
            numbers = tuple([turning_weight(rows, plane, prices) for rows in bids])
            if numbers not in found:
                found[numbers] = (plane, cell)
    return found


def wall_and_place(mixture, numbers):
    """A wall, and prices that are plain on it for all lists, at which these are their weights."""
    plane, cell = mixture.spots[numbers]
    planes = planes_of([row for rows in mixture.grains for row in rows])
    prices = prices_at(plane, spot_in(cell, cuts_of(plane, planes)))
    return told_plane(plane, mixture.bottom), told_place(mixture.lists[0], prices, mixture.bottom)


def end_of(pair):
    """The ratio t at which u + t * v is 0, for a pair (u, v) with v other than 0."""
    u, v = pair
    if v > 0:
        return lowest(-u, v)
    return lowest(u, -v)


def tightest(pairs, sign):
    """Of all pairs (u, v) whose v has this sign, the first one whose bound on t, where u + t * v is from 0 on, bars
    the most; None if there are none."""
    found = None
    for u, v in pairs:
        # Bounds of both signs bar more where u over the size of v is less.
        if v * sign > 0 and (found is None or u * found[1] * sign < found[0] * v * sign):
            found = (u, v)
    return found


def barring(pairs):
    """The pairs (u, v), one or two, that keep u + t * v from being from 0 on for any t; none if there is such a t."""
    for u, v in pairs:
        if v == 0 and u < 0:
            return ((u, v),)
    low, high = tightest(pairs, 1), tightest(pairs, -1)
    if low is None or high is None or low[0] * -high[1] + high[0] * low[1] >= 0:
        return ()
    return (low, high)
