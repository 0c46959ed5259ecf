"""Points 81 and 82: all rows of prices that are met, and the supplies at which they are the least prices."""

import itertools
import random
import unittest

from allbids.bids import Bids
from allbids.errors import BadRow, NoBuyer
from allbids.markets import Market, least_prices
from allbids.pricemaps import price_map, supplies_at

from oracles import BARRED, MENDED, box_by, fractions, least_by, pairs, random_bids, random_buyer, top_of

WRONG_PRICES = [None, 5, "11", (), (1,), (1, 1, 1), (1, -1), (1, (-1, 2)), (1, True), (1, (1, 0)), (1, 1.5), (1, None),
                {0: 1, 1: 1}]


def sets_of(kinds):
    """All sets of kinds with one kind at least, in ascending order of the tuples."""
    return sorted(part for many in range(1, kinds + 1) for part in itertools.combinations(range(kinds), many))


def map_by(bids):
    """By the least prices at all supplies with few units more than the buyer takes of any kind."""
    least = least_by(bids)
    found = {}
    for supply in least:
        found.setdefault(least[supply], []).append(supply)
    rows = []
    for prices in sorted(found):
        bounds = []
        for part in sets_of(bids.kinds):
            units = [sum(supply[kind] for kind in part) for supply in found[prices]]
            bounds.append((part, min(units), max(units) if min(prices[kind] for kind in part) > 0 else None))
        rows.append((pairs(prices), tuple(bounds)))
    return tuple(rows)


def keeps(supply, bounds):
    for part, low, high in bounds:
        units = sum(supply[kind] for kind in part)
        if units < low or high is not None and units > high:
            return False
    return True


class PriceMaps(unittest.TestCase):
    def test_one_kind(self):
        bids = Bids(1, [(2, (5,)), (1, ((1, 2),)), (3, (0,))])
        self.assertEqual(price_map(bids), ((((0, 1),), (((0,), 3, None),)), (((1, 2),), (((0,), 2, 2),)),
                                           (((5, 1),), (((0,), 0, 1),))))
        self.assertEqual(supplies_at(bids, (5,)), (((0,), 0, 1),))
        self.assertEqual(supplies_at(bids, [[2, 4]]), (((0,), 2, 2),))
        self.assertEqual(supplies_at(bids, (0,)), (((0,), 3, None),))
        for prices in ((6,), ((1, 3),), (1,), ((11, 2),)):
            self.assertIsNone(supplies_at(bids, prices))

    def test_no_bids(self):
        for kinds in (1, 2, 3):
            bounds = tuple((part, 0, None) for part in sets_of(kinds))
            self.assertEqual(price_map(Bids(kinds, [])), ((((0, 1),) * kinds, bounds),))
            self.assertEqual(supplies_at(Bids(kinds, []), (0,) * kinds), bounds)
            self.assertIsNone(supplies_at(Bids(kinds, []), (0,) * (kinds - 1) + ((1, 9),)))

    def test_two_kinds(self):
        """No set of kinds has a greatest number if one of them costs nothing."""
        bids = Bids(2, [(1, (5, 4)), (1, (0, 3))])
        self.assertEqual(supplies_at(bids, (5, 4)), (((0,), 0, 0), ((0, 1), 0, 0), ((1,), 0, 0)))
        self.assertEqual(supplies_at(bids, (5, 0)), None)
        self.assertEqual(supplies_at(bids, (1, 0)), (((0,), 0, 0), ((0, 1), 2, None), ((1,), 2, None)))
        self.assertEqual(supplies_at(bids, (0, 3)), (((0,), 1, None), ((0, 1), 1, None), ((1,), 0, 0)))
        self.assertEqual(supplies_at(bids, (4, 3)), (((0,), 0, 0), ((0, 1), 1, 1), ((1,), 1, 1)))
        self.assertEqual(supplies_at(bids, (0, 0)), (((0,), 1, None), ((0, 1), 2, None), ((1,), 1, None)))
        self.assertEqual([prices for prices, _ in price_map(bids)],
                         [((0, 1), (0, 1)), ((0, 1), (3, 1)), ((1, 1), (0, 1)), ((4, 1), (3, 1)), ((5, 1), (4, 1))])

    def test_ascending_by_values(self):
        bids = Bids(2, [(1, ((1, 3), 0)), (1, ((1, 2), 0)), (1, (10, 0)), (1, (0, (1, 10))), (1, (0, (1, 9)))])
        prices = [fractions(row) for row, _ in price_map(bids)]
        self.assertEqual(prices, sorted(prices))
        self.assertEqual(len(prices), 12)

    def test_tight_bounds(self):
        """Bounds that no single supply comes to, as other sets allow it less, are not told."""
        bids = Bids(2, [(1, (1, 1)), (1, (2, 0)), (1, (0, 2))])
        for prices, bounds in price_map(bids):
            supplies = [x for x in box_by((5, 5)) if least_prices(Market([bids], x)) == prices]
            for part, low, high in bounds:
                units = [sum(x[kind] for kind in part) for x in supplies]
                self.assertEqual(min(units), low)
                if high is not None:
                    self.assertEqual(max(units), high)

    def test_by_all_supplies(self):
        rng = random.Random(81)
        for _ in range(60):
            bids = random_buyer(rng, rng.choice([1, 2, 2, 3]), rng.choice([2, 4]))
            told = price_map(bids)
            self.assertEqual(told, map_by(bids))
            by_prices = dict(told)
            places = list(itertools.product(range(top_of(bids) + 2), repeat=bids.kinds))
            for place in rng.sample(places, min(60, len(places))):
                self.assertEqual(supplies_at(bids, place), by_prices.get(pairs(place)))
                halves = [(2 * price + 1, 2) for price in place]
                self.assertIsNone(supplies_at(bids, halves))

    def test_each_supply_keeps_the_bounds_of_one_row(self):
        rng = random.Random(82)
        for bids in (MENDED, random_bids(rng, 2, 12, 9, (1, 7, 1000), below=0),
                     random_bids(rng, 3, 4, 5, (1, 3), below=0)):
            told = dict(price_map(bids))
            for _ in range(40):
                supply = tuple(rng.choice([0, 1, 2, 3, 9, 60]) for _ in range(bids.kinds))
                prices = least_prices(Market([bids], supply))
                self.assertEqual([row for row in told if keeps(supply, told[row])], [prices])
                self.assertEqual(supplies_at(bids, prices), told[prices])

    def test_sizes(self):
        rng = random.Random(83)
        for kinds, many, weight in ((1, 12, 9), (2, 12, 2), (3, 8, 1)):
            rows = [(weight, [(rng.randint(0, 999999), 1000) for _ in range(kinds)]) for _ in range(many)]
            bids = Bids(kinds, rows)
            told = price_map(bids)
            for prices, bounds in told:
                self.assertTrue(all(number[1] > 0 for number in prices))
                self.assertEqual([part for part, _, _ in bounds], sets_of(kinds))
            prices, bounds = told[len(told) // 2]
            self.assertEqual(supplies_at(bids, prices), bounds)

    def test_errors(self):
        with self.assertRaises(NoBuyer):
            price_map(BARRED)
        for wrong in WRONG_PRICES:
            with self.assertRaises(BadRow) as caught:
                supplies_at(Bids(2, [(1, (1, 1))]), wrong)
            self.assertIs(caught.exception.row, wrong)
            with self.assertRaises(NoBuyer):
                supplies_at(BARRED, wrong)


if __name__ == "__main__":
    unittest.main()
