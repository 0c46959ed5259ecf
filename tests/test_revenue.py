"""Points 88 to 90: what a seller gets at most."""

import itertools
import random
import unittest
from fractions import Fraction

from allbids.bids import Bids
from allbids.demand import demand, demanded
from allbids.errors import BadRow, NoBuyer
from allbids.revenue import Revenue, best_revenue, best_within, gets

from oracles import BARRED, MENDED, fraction, fractions, pair, pairs, random_bids, random_buyer, top_of

ONE = Bids(2, [(2, (3, 0)), (1, (0, (1, 2)))])
WRONG_ROWS = [None, 5, "11", (), (1,), (1, 1, 1), (1, -1), (1, (-1, 2)), (1, True), (1, (1, 0)), (1, 1.5), (1, None),
              {0: 1, 1: 1}]
NOT_ABOVE = [(0, 1), (1, 0), (1, (0, 5)), [0, 0]]
WRONG_BUNDLES = [None, 5, "11", (), (1,), (1, 1, 1), (1, -1), (1, True), (1, (1, 1)), (1, 1.0), (1, None),
                 {0: 1, 1: 1}]


def brings(bundle, prices, costs):
    return sum(units * (price - lost) for units, price, lost in zip(bundle, fractions(prices), fractions(costs)))


def random_costs(rng, kinds):
    return tuple(pair(Fraction(rng.randint(0, 10), rng.choice([1, 2, 3]))) for _ in range(kinds))


class Gets(unittest.TestCase):
    def test_told(self):
        self.assertEqual(gets(ONE, (0, 0), (1, (1, 4))), (9, 4))
        self.assertEqual(gets(ONE, (1, 1), (1, (1, 4))), (-3, 4))
        self.assertEqual(gets(ONE, (0, 0), (9, 9)), (0, 1))
        self.assertEqual(gets(ONE, [[1, 2], 7], [[5, 2], 9]), (4, 1))

    def test_on_walls(self):
        """Where several bundles are demanded, as many units as bring something, and no others, are sold."""
        self.assertEqual(gets(ONE, (1, 1), (3, (1, 2))), (4, 1))
        self.assertEqual(gets(ONE, (4, 1), (3, (1, 2))), (0, 1))
        self.assertEqual(gets(ONE, (3, 0), (3, (1, 2))), (1, 2))
        both = Bids(2, [(3, (5, 4))])
        self.assertEqual(gets(both, (1, 1), (2, 1)), (3, 1))
        self.assertEqual(gets(both, (2, 0), (2, 1)), (3, 1))
        self.assertEqual(gets(both, (9, 3), (2, 1)), (-6, 1))
        self.assertEqual(gets(both, (9, 3), (5, 4)), (3, 1))
        self.assertEqual(gets(both, (9, 9), (5, 4)), (0, 1))

    def test_by_all_bundles(self):
        rng = random.Random(88)
        for _ in range(150):
            kinds = rng.choice([1, 2, 3])
            bids = random_buyer(rng, kinds, rng.choice([2, 4, 6]))
            costs = random_costs(rng, kinds)
            for _ in range(6):
                prices = pairs(Fraction(rng.randint(1, 2 * top_of(bids) + 2), rng.choice([1, 2])) for _ in range(kinds))
                most = max(brings(bundle, prices, costs) for bundle in demand(bids, prices))
                self.assertEqual(gets(bids, costs, prices), pair(most))

    def test_great_weights(self):
        """Far more bundles are demanded than demand tells."""
        bids = Bids(3, [(200, (5, 5, 5)), (200, (7, 0, 7))])
        self.assertEqual(gets(bids, (1, 9, 2), (5, 5, 5)), (1600, 1))
        self.assertEqual(gets(bids, (9, 9, 9), (5, 5, 5)), (-800, 1))
        self.assertEqual(gets(bids, (9, 1, 9), (5, 5, 5)), (0, 1))


class Best(unittest.TestCase):
    def check(self, bids, told, costs, number):
        self.assertIs(told.__class__, Revenue)
        self.assertEqual(told.number, number)
        for row in (told.prices, told.bundle):
            self.assertIsInstance(row, tuple)
        self.assertTrue(all(price > 0 for price in fractions(told.prices)))
        self.assertEqual(pairs(fractions(told.prices)), told.prices)
        self.assertTrue(demanded(bids, told.prices, told.bundle))
        self.assertEqual(pair(brings(told.bundle, told.prices, costs)), number)

    def test_told(self):
        bids = Bids(1, [(1, (5,)), (1, (4,)), (2, (1,))])
        for costs, number in (((0,), 8), (((1, 2),), 7), ((3,), 2), ((4,), 1), ((5,), 0), ((9,), 0)):
            self.check(bids, best_revenue(bids, costs), costs, (number, 1))
        for supply, number in (((0,), 0), ((1,), 5), ([2], 8), ((3,), 8), ((60,), 8)):
            self.check(bids, best_within(bids, (0,), supply), (0,), (number, 1))
            self.assertTrue(best_within(bids, (0,), supply).bundle[0] <= supply[0])

    def test_nothing(self):
        for kinds in (1, 2, 3):
            bids = Bids(kinds, [])
            self.check(bids, best_revenue(bids, (0,) * kinds), (0,) * kinds, (0, 1))
            self.check(bids, best_within(bids, (3,) * kinds, (0,) * kinds), (3,) * kinds, (0, 1))
        told = best_within(ONE, (0, 0), (0, 0))
        self.check(ONE, told, (0, 0), (0, 1))
        self.assertEqual(told.bundle, (0, 0))

    def test_gets_it_there(self):
        self.check(ONE, best_revenue(ONE, (1, (1, 3))), (1, (1, 3)), (25, 6))
        told = best_revenue(ONE, (1, (1, 3)))
        self.assertEqual(gets(ONE, (1, (1, 3)), told.prices), told.number)
        self.check(ONE, best_within(ONE, (1, (1, 3)), (0, 1)), (1, (1, 3)), (1, 6))

    def test_by_all_prices(self):
        """Prices that are integers tell the most, as highs of regions are such."""
        rng = random.Random(89)
        for _ in range(60):
            kinds = rng.choice([1, 2, 2, 3])
            bids = random_buyer(rng, kinds, 4)
            costs = random_costs(rng, kinds)
            supply = tuple(rng.randint(0, 2) for _ in range(kinds))
            most, within = Fraction(0), Fraction(0)
            for prices in itertools.product(range(1, top_of(bids) + 2), repeat=kinds):
                for bundle in demand(bids, prices):
                    number = brings(bundle, prices, costs)
                    most = max(most, number)
                    if all(units <= cap for units, cap in zip(bundle, supply)):
                        within = max(within, number)
            told = best_revenue(bids, costs)
            self.check(bids, told, costs, pair(most))
            self.assertEqual(gets(bids, costs, told.prices), pair(most))
            told = best_within(bids, costs, supply)
            self.check(bids, told, costs, pair(within))
            self.assertTrue(all(units <= cap for units, cap in zip(told.bundle, supply)))

    def test_more_than_300_bundles(self):
        rng = random.Random(90)
        for kinds, weights in ((2, [4] * 10), (3, [1] * 12), (1, [20] * 10)):
            bids = Bids(kinds, [(weight, [(rng.randint(500, 999), 7) for _ in range(kinds)]) for weight in weights])
            costs = (1,) * kinds
            told = best_revenue(bids, costs)
            self.check(bids, told, costs, told.number)
            self.assertEqual(gets(bids, costs, told.prices), told.number)
            all_of = [min(number for _, numbers in bids.rows for number in fractions(numbers))] * kinds
            self.assertTrue(fraction(told.number) >= sum(weights) * (all_of[0] - 1))
            within = best_within(bids, costs, (200,) * kinds)
            self.assertEqual(within.number, told.number)
        flat = Bids(2, [(20, (5, 4)), (20, (4, 5))])
        self.check(flat, best_revenue(flat, (0, 0)), (0, 0), (200, 1))

    def test_weights_below_0(self):
        self.check(MENDED, best_revenue(MENDED, (0, 0)), (0, 0), pair(max(
            brings(bundle, prices, (0, 0)) for prices in itertools.product(range(1, 6), repeat=2)
            for bundle in demand(MENDED, prices))))

    def test_errors(self):
        for wrong in WRONG_ROWS:
            for call in (lambda bids: gets(bids, wrong, None), lambda bids: best_revenue(bids, wrong),
                         lambda bids: best_within(bids, wrong, None)):
                with self.assertRaises(BadRow) as caught:
                    call(ONE)
                self.assertIs(caught.exception.row, wrong)
                with self.assertRaises(NoBuyer):
                    call(BARRED)
        for wrong in WRONG_ROWS + NOT_ABOVE:
            with self.assertRaises(BadRow) as caught:
                gets(ONE, (0, 0), wrong)
            self.assertIs(caught.exception.row, wrong)
        for wrong in WRONG_BUNDLES:
            with self.assertRaises(BadRow) as caught:
                best_within(ONE, (0, 0), wrong)
            self.assertIs(caught.exception.row, wrong)


if __name__ == "__main__":
    unittest.main()
