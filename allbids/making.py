"""Lists made of lists."""

from allbids.bids import Bids
from allbids.checks import are_prices, is_from_zero, is_kind, told_row
from allbids.errors import BadNumber, BadRow
from allbids.ratios import is_whole, less, minus
from allbids.worths import bids_by, check_buyer, moved, worths_in

ZERO = (0, 1)


def taxed(bids, taxes):
    """The list if each unit of a kind costs its tax more."""
    if not are_prices(taxes, bids.kinds):
        raise BadRow(taxes)
    return Bids(bids.kinds, [(weight, lessened(numbers, told_row(taxes))) for weight, numbers in bids.rows])


def as_one(bids, i, j):
    """The list if two kinds cost the same and are counted together."""
    check_kind(bids, i)
    check_kind(bids, j)
    if i == j:
        raise BadNumber("kind", j)
    low, high = min(i, j), max(i, j)
    rows = []
    for weight, numbers in bids.rows:
        one = numbers[high] if less(numbers[low], numbers[high]) else numbers[low]
        rows.append((weight, numbers[:low] + (one,) + numbers[low + 1:high] + numbers[high + 1:]))
    return Bids(bids.kinds - 1, rows)


def at_price(bids, kind, price):
    """The list of the other kinds if one kind is to be had at a price."""
    if bids.kinds == 1:
        raise BadNumber("kinds", 1)
    check_kind(bids, kind)
    if not is_from_zero(price):
        raise BadNumber("price", price)
    rows = []
    for weight, numbers in bids.rows:
        others = numbers[:kind] + numbers[kind + 1:]
        rows.append((weight, lessened(others, (left_over(numbers[kind], price),) * len(others))))
    return Bids(bids.kinds - 1, rows)


def onto(bids, kinds):
    """The list for other kinds, each of them an old kind or None for one that is not wanted."""
    check_onto(bids, kinds)
    rows = [(weight, [ZERO if kind is None else numbers[kind] for kind in kinds]) for weight, numbers in bids.rows]
    return Bids(len(kinds), rows)


def capped(bids, many):
    """The list of a buyer that cannot use more than so many units in all."""
    check_buyer(bids)
    check_many(many)
    caps = [min(most, many) for most in most_units(bids)]
    old, bottom = worths_in(bids, caps)
    table = {}
    for bundle in old:
        if sum(bundle) <= many:
            table[bundle] = old[bundle]
        else:
            table[bundle] = max([table[moved(bundle, k, -1)] for k in range(len(caps)) if bundle[k] > 0])
    return bids_by(table, caps, bottom)


def capped_kind(bids, kind, many):
    """The list of a buyer that cannot use more than so many units of a kind."""
    check_buyer(bids)
    check_kind(bids, kind)
    check_many(many)
    caps = most_units(bids)
    caps[kind] = min(caps[kind], many)
    table, bottom = worths_in(bids, caps)
    return bids_by(table, caps, bottom)


def left_over(number, cost):
    """A ratio less another one, but 0 at least."""
    left = minus(number, cost)
    if left[0] < 0:
        return ZERO
    return left


def lessened(numbers, costs):
    """Numbers of a bid if it has to pay some costs besides the prices."""
    return tuple([left_over(number, cost) for number, cost in zip(numbers, costs)])


def check_kind(bids, kind):
    """BadNumber for what is no kind of a list."""
    if not is_kind(kind, bids.kinds):
        raise BadNumber("kind", kind)


def check_many(many):
    """BadNumber for what is no integer from 0 on."""
    if not is_whole(many) or many < 0:
        raise BadNumber("many", many)


def check_onto(bids, kinds):
    """BadRow for what is no row of one to three old kinds, each once, and None."""
    if not isinstance(kinds, (tuple, list)) or not 1 <= len(kinds) <= 3:
        raise BadRow(kinds)
    old = [kind for kind in kinds if kind is not None]
    if not all([is_kind(kind, bids.kinds) for kind in old]) or len(set(old)) < len(old):
        raise BadRow(kinds)


def most_units(bids):
    """For each kind the most units of it that a taken bundle has: as many as are taken where it costs next to nothing
    and all others are too dear."""
    return [sum([weight for weight, numbers in bids.rows if numbers[k] != ZERO]) for k in range(bids.kinds)]
