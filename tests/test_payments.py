"""Points 83 to 87: best dealings, and payments by what others lose."""

import random
import unittest

from allbids.bids import Bids
from allbids.errors import BadNumber, NoBuyer, Unlike
from allbids.markets import Market, clearing, dealt, least_prices, whole_worth
from allbids.payments import (Payments, bundles_for, is_best, left_with, payment_range, payments, payments_at,
                              shares_of, whole_without)

from oracles import BARRED, MENDED, box_by, cost, fraction, fractions, pair, pairs, random_buyer, worths_of

ONE = Bids(2, [(1, (5, 4))])
TWO = Bids(2, [(1, (3, 3)), (1, (0, (1, 2)))])
NO_BUYERS = [-1, 2, True, None, "0", (0, 1), 1.0, [0]]
ANY = [None, 5, "11", (), [], {}, True, (1, 2), ((1, 0),), ((1, 0), (0, 1), (0, 0)), ((1,), (0,)),
       ((1, 0, 0), (0, 1, 0)), [(1, 0), (0, 1)], ((1, 0), [0, 1]), ([1, 0], (0, 1)), ((1, 0), None), ((1, 0), (0, -1)),
       ((1, 0), (0, True)), ((1, 0), (0, 1.0)), ((1, 0), "01"), ((1, 0), ((0, 1), (1, 1)))]


def random_market(rng, most=3):
    kinds = rng.choice([1, 2, 2, 3])
    buyers = [random_buyer(rng, kinds, 3) for _ in range(rng.randint(1, 3))]
    if len(buyers) < 3 and rng.random() < 0.3:
        buyers.append(buyers[0])
    return Market(buyers, [rng.randint(0, {1: 3, 2: 2, 3: 1}[kinds]) for _ in range(kinds)])


class Known:
    """All that is told of a market with integers, by the worths of all dealings."""

    def __init__(self, market):
        self.tables = [worths_of(bids, market.supply) for bids in market.buyers]
        found = [((), market.supply)]
        for _ in market.buyers:
            found = [(bundles + (bundle,), tuple(a - b for a, b in zip(left, bundle)))
                     for bundles, left in found for bundle in box_by(left)]
        self.dealings = [bundles for bundles, _ in found]
        self.sums = {dealing: self.sum_of(dealing) for dealing in self.dealings}
        self.whole = max(self.sums.values())
        self.best = [dealing for dealing in self.dealings if self.sums[dealing] == self.whole]

    def sum_of(self, dealing, k=None):
        return sum(table[bundle] for at, (table, bundle) in enumerate(zip(self.tables, dealing)) if at != k)

    def without(self, k):
        return max(self.sum_of(dealing, k) for dealing in self.dealings)

    def payment(self, k, dealing):
        return self.without(k) - (self.whole - self.tables[k][dealing[k]])


class Best(unittest.TestCase):
    def test_told(self):
        market = Market([ONE, TWO], (1, 1))
        self.assertIs(is_best(market, ((1, 0), (0, 1))), True)
        self.assertIs(is_best(market, ((0, 1), (1, 0))), False)
        self.assertIs(is_best(market, ((0, 0), (0, 0))), False)

    def test_too_many_units(self):
        market = Market([ONE, TWO], (1, 0))
        self.assertIs(is_best(market, ((1, 0), (0, 0))), True)
        self.assertIs(is_best(market, ((1, 0), (0, 1))), False)
        self.assertIs(is_best(market, ((1, 0), (1, 0))), False)
        self.assertIs(is_best(market, ((2, 0), (0, 0))), False)

    def test_units_left_and_of_no_use(self):
        market = Market([ONE, ONE], (3, 5))
        for dealing in (((1, 0), (1, 0)), ((3, 0), (0, 5)), ((2, 3), (1, 2)), ((1, 5), (2, 0))):
            self.assertEqual(is_best(market, dealing), all(bundle[0] for bundle in dealing), dealing)
        self.assertIs(is_best(Market([Bids(2, [])], (2, 2)), ((1, 0),)), True)

    def test_any_value(self):
        market = Market([ONE, TWO], (1, 1))
        for value in ANY:
            self.assertIs(is_best(market, value), False, value)

    def test_by_all_dealings(self):
        rng = random.Random(83)
        for _ in range(60):
            market = random_market(rng)
            known = Known(market)
            self.assertEqual(fraction(whole_worth(market)), known.whole)
            for dealing in rng.sample(known.dealings, min(20, len(known.dealings))):
                self.assertIs(is_best(market, dealing), dealing in known.best)
            self.assertTrue(is_best(market, rng.choice(known.best)))
            self.assertTrue(is_best(market, dealt(market, least_prices(market))))


class Shares(unittest.TestCase):
    def test_one_buyer(self):
        market = Market([TWO], (1, 3))
        self.assertEqual(whole_without(market, 0), (0, 1))
        self.assertEqual(shares_of(market), ((7, 2),))
        self.assertEqual(payments_at(market, ((1, 3),)), ((0, 1),))

    def test_equal_buyers(self):
        """Each of them pays what the other one would have had."""
        market = Market([ONE, ONE], (1, 0))
        self.assertEqual((whole_without(market, 0), whole_without(market, 1)), ((5, 1), (5, 1)))
        self.assertEqual(shares_of(market), ((0, 1), (0, 1)))
        self.assertEqual(payments_at(market, ((1, 0), (0, 0))), ((5, 1), (0, 1)))
        self.assertEqual(payments_at(market, ((0, 0), (1, 0))), ((0, 1), (5, 1)))

    def test_told(self):
        market = Market([ONE, TWO], (1, 1))
        self.assertEqual((whole_without(market, 0), whole_without(market, 1)), ((7, 2), (5, 1)))
        self.assertEqual(shares_of(market), ((9, 2), (3, 1)))
        self.assertEqual(payments_at(market, ((1, 0), (0, 1))), ((1, 2), (0, 1)))
        told = payments(market)
        self.assertIs(told.__class__, Payments)
        self.assertEqual((told.dealing, told.numbers), (((1, 0), (0, 1)), ((1, 2), (0, 1))))

    def test_by_all_dealings(self):
        rng = random.Random(84)
        for _ in range(60):
            market = random_market(rng)
            known = Known(market)
            many = len(market.buyers)
            for k in range(many):
                self.assertEqual(whole_without(market, k), pair(known.without(k)))
            self.assertEqual(shares_of(market), pairs(known.whole - known.without(k) for k in range(many)))
            for dealing in rng.sample(known.best, min(4, len(known.best))):
                numbers = payments_at(market, dealing)
                self.assertEqual(numbers, pairs(known.payment(k, dealing) for k in range(many)))
                self.check_payments(market, dealing, numbers)
            told = payments(market)
            self.assertIn(told.dealing, known.best)
            self.assertEqual(told.numbers, payments_at(market, told.dealing))

    def check_payments(self, market, dealing, numbers):
        """They are from 0 on, and at most the cost at any clearing prices."""
        for bundle, number in zip(dealing, fractions(numbers)):
            self.assertTrue(0 <= number <= cost(bundle, fractions(clearing(market).lows)))

    def test_errors(self):
        market = Market([ONE, TWO], (1, 1))
        for call in (lambda k: whole_without(market, k), lambda k: bundles_for(market, k),
                     lambda k: payment_range(market, k), lambda k: left_with(market, k, Bids(3, []), None)):
            for wrong in NO_BUYERS:
                with self.assertRaises(BadNumber) as caught:
                    call(wrong)
                self.assertEqual(caught.exception.what, "buyer")
                self.assertIs(caught.exception.number, wrong)
        for value in ANY + [((0, 1), (1, 0)), ((1, 0), (0, 2))]:
            with self.assertRaises(Unlike) as caught:
                payments_at(market, value)
            self.assertEqual(caught.exception.what, "dealing")


class Bundles(unittest.TestCase):
    def test_units_of_no_use(self):
        market = Market([Bids(2, [(1, (5, 0))]), Bids(2, [(1, (3, 0))])], (1, 2))
        self.assertEqual(bundles_for(market, 0), ((1, 0), (1, 1), (1, 2)))
        self.assertEqual(bundles_for(market, 1), ((0, 0), (0, 1), (0, 2)))
        self.assertEqual(payment_range(market, 0), ((3, 1), (3, 1)))
        self.assertEqual(payment_range(market, 1), ((0, 1), (0, 1)))
        self.assertEqual(bundles_for(Market([Bids(1, [])], (2,)), 0), ((0,), (1,), (2,)))

    def test_payments_that_depend_on_the_dealing(self):
        market = Market([ONE, ONE], (1, 0))
        self.assertEqual(bundles_for(market, 1), ((0, 0), (1, 0)))
        self.assertEqual(payment_range(market, 1), ((0, 1), (5, 1)))
        half = Bids(1, [(2, ((1, 2),))])
        self.assertEqual(payment_range(Market([half, half], (2,)), 0), ((0, 1), (1, 1)))

    def test_by_all_dealings(self):
        rng = random.Random(86)
        for _ in range(80):
            market = random_market(rng)
            known = Known(market)
            for k in range(len(market.buyers)):
                self.assertEqual(bundles_for(market, k), tuple(sorted({dealing[k] for dealing in known.best})))
                numbers = [known.payment(k, dealing) for dealing in known.best]
                self.assertEqual(payment_range(market, k), (pair(min(numbers)), pair(max(numbers))))

    def test_sizes(self):
        rng = random.Random(87)
        for supply in ((59,), (9, 5), (4, 3, 2)):
            rows = [(rng.randint(1, 5), [(rng.randint(0, 99), 7) for _ in supply]) for _ in range(20)]
            market = Market([Bids(len(supply), rows[k:k + 4]) for k in range(0, 20, 4)], supply)
            told = payments(market)
            self.assertTrue(is_best(market, told.dealing))
            for k in range(5):
                low, high = payment_range(market, k)
                self.assertTrue(fraction(low) <= fraction(told.numbers[k]) <= fraction(high))
                self.assertIn(told.dealing[k], bundles_for(market, k))


class Left(unittest.TestCase):
    def test_own_list(self):
        market = Market([ONE, TWO], (1, 1))
        self.assertEqual(left_with(market, 0, ONE, ((1, 0), (0, 1))), (9, 2))
        self.assertEqual(left_with(market, 1, TWO, ((1, 0), (0, 1))), (3, 1))

    def test_other_lists(self):
        market = Market([ONE, TWO], (1, 1))
        self.assertEqual(left_with(market, 0, Bids(2, []), ((0, 0), (1, 1))), (0, 1))
        # The first one asks for the kind 1 alone, and pays for it what the other one gives.
        self.assertEqual(left_with(market, 0, Bids(2, [(1, (0, 4))]), ((0, 1), (1, 0))), (7, 2))
        # It tells far more than it has, and takes all.
        self.assertEqual(left_with(market, 0, Bids(2, [(2, (9, 9))]), ((1, 1), (0, 0))), (3, 2))

    def test_never_more_than_the_share(self):
        rng = random.Random(88)
        for _ in range(80):
            market = random_market(rng)
            k = rng.randrange(len(market.buyers))
            told = random_buyer(rng, market.kinds, rng.choice([2, 5]))
            changed = Market(market.buyers[:k] + (told,) + market.buyers[k + 1:], market.supply)
            dealing = payments(changed).dealing
            left = left_with(market, k, told, dealing)
            own = fraction(worths_of(market.buyers[k], market.supply)[dealing[k]])
            self.assertEqual(fraction(left), own - fraction(payments_at(changed, dealing)[k]))
            self.assertTrue(fraction(left) <= fraction(shares_of(market)[k]))
            own = payments(market).dealing
            self.assertEqual(left_with(market, k, market.buyers[k], own), shares_of(market)[k])

    def test_errors(self):
        market = Market([ONE, TWO], (1, 1))
        for wrong in ANY:
            for k in (0, 1):
                with self.assertRaises(Unlike) as caught:
                    left_with(market, k, Bids(3, [(-1, (1, 1, 1))]), wrong)
                self.assertEqual(caught.exception.what, "kinds")
                with self.assertRaises(NoBuyer):
                    left_with(market, k, BARRED, wrong)
                with self.assertRaises(Unlike) as caught:
                    left_with(market, k, MENDED, wrong)
                self.assertEqual(caught.exception.what, "dealing")
        with self.assertRaises(Unlike) as caught:
            left_with(Market([ONE], (1, 1)), 0, Bids(1, []), None)
        self.assertEqual(caught.exception.what, "kinds")
        # What was best with the own list need not be so with the told one.
        with self.assertRaises(Unlike) as caught:
            left_with(market, 0, Bids(2, []), ((1, 0), (0, 1)))
        self.assertEqual(caught.exception.what, "dealing")


if __name__ == "__main__":
    unittest.main()
