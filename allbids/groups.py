"""Kinds that stand for one another, and how many units a buyer leaves of one kind for another."""

from allbids.bids import Bids
from allbids.checks import frozen, is_kind
from allbids.errors import BadNumber
from allbids.making import check_kind
from allbids.planes import cuts_of, planes_of, prices_at, spot_in, turning_cells, turning_weight
from allbids.walls import grained, told_place, told_plane
from allbids.worths import check_buyer


class Reaction:
    """The most units that a buyer leaves of one kind for another at one wall, and where it does so."""

    def __init__(self, units, wall, place):
        self.units = units
        self.wall = frozen(wall)
        self.place = frozen(place)


def groups(bids):
    """All groups of kinds of a list, ascending by their first kinds."""
    parts = [(kind,) for kind in range(bids.kinds)]
    # Each plane of a list has a weight other than 0 somewhere, so just the kinds that one bid wants belong together.
    for _, numbers in bids.rows:
        near = [part for part in parts if wants_one(numbers, part)]
        apart = [part for part in parts if not wants_one(numbers, part)]
        parts = apart + [tuple(sorted([kind for part in near for kind in part]))]
    return tuple(sorted(parts))


def parted(bids):
    """For each group of kinds the list of all bids that want some of them, for these kinds alone."""
    return tuple([part_of(bids, part) for part in groups(bids)])


def reaction(bids, i, j):
    """The Reaction of a buyer between two kinds; None if they never stand for one another."""
    check_buyer(bids)
    check_kind(bids, i)
    if not is_kind(j, bids.kinds) or i == j:
        raise BadNumber("kind", j)
    rows, bottom = grained(bids, [])
    found = heaviest(rows, (min(i, j), max(i, j)))
    if found is None:
        return None
    weight, plane, place = found
    return Reaction(weight, told_plane(plane, bottom), told_place(bids, place, bottom))


def wants_one(numbers, part):
    """Whether a bid wants some kind of a set."""
    return any([numbers[kind][0] > 0 for kind in part])


def part_of(bids, part):
    """The bids that want some kind of a set, for the kinds of the set alone."""
    rows = [(weight, [numbers[kind] for kind in part]) for weight, numbers in bids.rows if wants_one(numbers, part)]
    return Bids(len(part), rows)


def heaviest(rows, pair):
    """The greatest weight of all planes between two kinds, such a plane, and plain prices on it; None if there is no
    such plane."""
    planes = planes_of(rows)
    found = None
    for plane in [one for one in planes if one[:2] == pair]:
        for cell, prices in turning_cells(rows, plane, (0, 0, 0)):
            weight = turning_weight(rows, plane, prices)
            if found is None or weight > found[0]:
                found = (weight, plane, prices_at(plane, spot_in(cell, cuts_of(plane, planes))))
    return found
