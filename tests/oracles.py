"""Slow and plain ways to reckon what the package tells, over fractions, and lists to try."""

import itertools
import random
from fractions import Fraction

from allbids.bids import Bids
from allbids.worths import list_of, table_of


def fraction(value):
    """A ratio as a fraction."""
    return Fraction(value) if isinstance(value, int) else Fraction(value[0], value[1])


def fractions(row):
    return [fraction(value) for value in row]


def pair(value):
    """A fraction as ratios are told."""
    value = Fraction(value)
    return (value.numerator, value.denominator)


def pairs(row):
    return tuple(pair(value) for value in row)


def gain_by(bids, prices):
    """The gain at prices that are fractions."""
    total = Fraction(0)
    for weight, numbers in bids.rows:
        total += weight * max([0] + [b - p for b, p in zip(fractions(numbers), prices)])
    return total


def best_by(numbers, prices):
    """The bests of a bid, by the words of point 10."""
    margins = {k: b - p for k, (b, p) in enumerate(zip(fractions(numbers), prices)) if b > 0}
    top = max(margins.values(), default=Fraction(-1))
    found = [k for k in margins if margins[k] == top and top >= 0]
    return tuple(([-1] if top <= 0 else []) + found)


def height(plane, prices):
    """How far prices are above a wall."""
    if plane[0] == "at":
        return prices[plane[1]] - fraction(plane[2])
    return prices[plane[1]] - prices[plane[2]] - fraction(plane[3])


def turns(numbers, plane, prices):
    """Whether a bid turns on a wall at prices on it, by the words of point 16."""
    b = fractions(numbers)
    if plane[0] == "at":
        i = plane[1]
        return b[i] == fraction(plane[2]) and all(b[j] < prices[j] for j in range(len(b)) if j != i)
    i, j = plane[1], plane[2]
    margin = b[i] - prices[i]
    others = [b[h] - prices[h] for h in range(len(b)) if h not in (i, j)]
    return margin == b[j] - prices[j] and margin > 0 and all(margin > other for other in others)


def weight_by_turns(bids, plane, prices):
    return sum(weight for weight, numbers in bids.rows if turns(numbers, plane, prices))


def planes_by(bids):
    """All planes of a list, ascending, as walls are told."""
    at, apart = set(), set()
    for _, numbers in bids.rows:
        b = fractions(numbers)
        wanted = [k for k in range(len(b)) if b[k] > 0]
        at.update((i, b[i]) for i in wanted)
        apart.update((i, j, b[i] - b[j]) for i, j in itertools.combinations(wanted, 2))
    walls = [("at", i, pair(c)) for i, c in sorted(at)]
    return tuple(walls + [("as", i, j, pair(c)) for i, j, c in sorted(apart)])


def random_bids(rng, kinds, many, top, bottoms=(1,), below=0.3):
    """A list that may be a buyer or none."""
    rows = []
    for _ in range(many):
        weight = rng.choice([1, 1, 2, 3]) * (-1 if rng.random() < below else 1)
        numbers = [(rng.randint(0, top), rng.choice(bottoms)) if rng.random() < 0.8 else 0 for _ in range(kinds)]
        rows.append((weight, numbers))
    return Bids(kinds, rows)


def random_lists(seed, many, **more):
    """Pairs of a random source and a list from it."""
    rng = random.Random(seed)
    for _ in range(many):
        kinds = rng.choice([1, 2, 3])
        yield rng, random_bids(rng, kinds, rng.randint(0, 5), rng.choice([2, 3, 6]), **more)


def mended_lists(seed, many, kinds=(2, 3)):
    """Pairs of a random source and a buyer, most of which have weights below 0: lists of tables with caps lower than
    what is wanted."""
    rng = random.Random(seed)
    for _ in range(many):
        yield rng, mended_list(rng, rng.choice(kinds))


def mended_list(rng, kinds, many=4, top=6):
    bids = random_bids(rng, kinds, many, top, below=0)
    return list_of(table_of(bids, [rng.randint(1, 2) for _ in range(kinds)]))


def random_buyer(rng, kinds, top=4):
    """A buyer whose numbers are integers, perhaps with weights below 0, that wants few units."""
    if rng.random() < 0.5:
        return mended_list(rng, kinds, rng.randint(1, 4), top)
    return random_bids(rng, kinds, rng.randint(0, 3), top, below=0)


def box_by(caps):
    return list(itertools.product(*[range(cap + 1) for cap in caps]))


def worth_by(bids, bundle):
    """The worth for a buyer whose numbers are integers: such prices are enough."""
    top = max([0] + [number[0] for _, numbers in bids.rows for number in numbers])
    places = itertools.product(range(top + 1), repeat=bids.kinds)
    return min(gain_by(bids, p) + sum(u * q for u, q in zip(bundle, p)) for p in places)


def cost(bundle, prices):
    return sum(units * price for units, price in zip(bundle, prices))


def top_of(*lists):
    """The greatest number of any bid, if all are integers."""
    return max([0] + [number[0] for bids in lists for _, numbers in bids.rows for number in numbers])


def whole_gain(bids, prices):
    """The gain at prices that are integers, as all numbers are."""
    return sum(weight * max([0] + [b[0] - p for b, p in zip(numbers, prices)]) for weight, numbers in bids.rows)


def room_for(bids):
    """More units of each kind than the buyer ever takes."""
    return [sum(max(0, weight) for weight, _ in bids.rows) + 1] * bids.kinds


def worths_of(bids, caps=None):
    """The worths of all bundles of a box, if all numbers are integers."""
    gains = {p: whole_gain(bids, p) for p in itertools.product(range(top_of(bids) + 1), repeat=bids.kinds)}
    return {bundle: min(gains[p] + cost(bundle, p) for p in gains) for bundle in box_by(caps or room_for(bids))}


# The list of point 21, which is no buyer.
BARRED = Bids(2, [(2, (3, 0)), (1, (0, 1)), (-1, (1, 1))])

# A buyer with a weight below 0, of one unit of each kind at most.
MENDED = Bids(2, [(1, (0, 3)), (1, (2, 0)), (-1, (2, 3)), (1, (3, 4))])


def moved_by(bundle, kind, units):
    """A bundle with so many units more of a kind."""
    return tuple(n + (units if k == kind else 0) for k, n in enumerate(bundle))


def least_by(bids, caps=None):
    """The least prices at all supplies of a box, if all numbers are integers: what one unit more adds to the worth
    (point 64)."""
    caps = caps or room_for(bids)
    table = worths_of(bids, [cap + 1 for cap in caps])
    return {x: tuple(table[moved_by(x, k, 1)] - table[x] for k in range(bids.kinds)) for x in box_by(caps)}
