"""Points 56 to 61: lists made of lists."""

import itertools
import random
import unittest
from fractions import Fraction

from allbids.bids import Bids
from allbids.demand import demand_map
from allbids.errors import BadNumber, BadRow, NoBuyer
from allbids.gains import gain
from allbids.making import as_one, at_price, capped, capped_kind, onto, taxed
from allbids.walls import is_buyer
from allbids.worths import worth

from oracles import (BARRED, MENDED, box_by, fraction, fractions, gain_by, pair, pairs, random_bids, random_buyer,
                     random_lists, top_of, worths_of)

NO_KINDS = [None, -1, 2, 5, True, False, 1.0, "0", (0, 1), [0], {}, 10 ** 30]


def random_prices(rng, kinds):
    return [Fraction(rng.randint(0, 40), rng.choice([1, 3, 7])) for _ in range(kinds)]


class Taxed(unittest.TestCase):
    def test_gains(self):
        for rng, bids in random_lists(56, 100, bottoms=(1, 2)):
            taxes = [Fraction(rng.randint(0, 6), rng.choice([1, 2, 3])) for _ in range(bids.kinds)]
            told = taxed(bids, pairs(taxes))
            self.assertIsInstance(told, Bids)
            self.assertEqual(told.kinds, bids.kinds)
            for _ in range(8):
                prices = random_prices(rng, bids.kinds)
                self.assertEqual(gain_by(told, prices), gain_by(bids, [p + t for p, t in zip(prices, taxes)]))
            if is_buyer(bids):
                self.assertIs(is_buyer(told), True)

    def test_told_lists(self):
        bids = Bids(2, [(2, (3, 1)), (1, (4, (5, 2))), (-1, (2, 0))])
        self.assertEqual(taxed(bids, (1, (1, 2))), Bids(2, [(2, (2, (1, 2))), (1, (3, 2)), (-1, (1, 0))]))
        self.assertEqual(taxed(bids, [2, [4, 4]]), Bids(2, [(2, (1, 0)), (1, (2, (3, 2)))]))
        self.assertEqual(taxed(bids, (4, (5, 2))), Bids(2, []))
        self.assertEqual(taxed(bids, (0, 0)), bids)
        self.assertEqual(taxed(Bids(1, [(1, (5,)), (-1, (2,)), (1, (3,))]), (3,)), Bids(1, [(1, (2,))]))

    def test_numbers_that_become_equal(self):
        self.assertEqual(taxed(Bids(2, [(1, (5, 1)), (2, (5, 2)), (4, (5, 3))]), (0, 2)),
                         Bids(2, [(3, (5, 0)), (4, (5, 1))]))
        self.assertEqual(taxed(Bids(2, [(1, (5, 1)), (-1, (5, 2))]), (1, 2)), Bids(2, []))

    def test_errors(self):
        for taxes in [None, 5, "11", (), (1,), (1, 1, 1), (1, -1), (1, (-1, 2)), (1, True), (1, (1, 0)), (1, 1.5),
                      (None, 1), {0: 1, 1: 1}]:
            with self.assertRaises(BadRow, msg=taxes) as caught:
                taxed(BARRED, taxes)
            self.assertIs(caught.exception.row, taxes)


class AsOne(unittest.TestCase):
    def test_gains_and_counts(self):
        for rng, bids in random_lists(57, 100, bottoms=(1, 2)):
            if bids.kinds == 1:
                continue
            i, j = rng.sample(range(bids.kinds), 2)
            told = as_one(bids, i, j)
            self.assertEqual(told, as_one(bids, j, i))
            self.assertEqual(told.kinds, bids.kinds - 1)
            for _ in range(8):
                prices = random_prices(rng, told.kinds)
                old = list(prices)
                old.insert(max(i, j), prices[min(i, j)])
                self.assertEqual(gain_by(told, prices), gain_by(bids, old))
            if is_buyer(bids):
                self.assertIs(is_buyer(told), True)

    def test_told_lists(self):
        bids = Bids(3, [(1, (3, 5, 7)), (2, (6, 0, 2)), (-1, (6, 6, (1, 2)))])
        self.assertEqual(as_one(bids, 0, 1), Bids(2, [(1, (5, 7)), (2, (6, 2)), (-1, (6, (1, 2)))]))
        self.assertEqual(as_one(bids, 2, 0), Bids(2, [(1, (7, 5)), (2, (6, 0)), (-1, (6, 6))]))
        self.assertEqual(as_one(bids, 1, 2), Bids(2, [(1, (3, 7)), (2, (6, 2)), (-1, (6, 6))]))
        self.assertEqual(as_one(Bids(2, [(1, (2, 3)), (2, (3, 1)), (-3, (3, 3))]), 0, 1), Bids(1, []))

    def test_three_kinds_twice(self):
        """As in point 60, the order does not matter; and the worth of many units is that of as_one."""
        rng = random.Random(58)
        for _ in range(30):
            bids = random_buyer(rng, 3, 3)
            one = as_one(as_one(bids, 0, 1), 0, 1)
            for i, j in itertools.permutations(range(3), 2):
                self.assertEqual(as_one(as_one(bids, i, j), 0, 1), one)
            worths = worths_of(bids, [4, 4, 4])
            for many in range(5):
                wanted = max(worths[bundle] for bundle in worths if sum(bundle) == many)
                self.assertEqual(worth(one, (many,)), (wanted, 1))

    def test_errors_in_their_order(self):
        for kind in NO_KINDS:
            for other in [0, 1, None, 7]:
                with self.assertRaises(BadNumber, msg=kind) as caught:
                    as_one(BARRED, kind, other)
                self.assertEqual((caught.exception.what, caught.exception.number), ("kind", kind))
                self.assertIs(caught.exception.number, kind)
            with self.assertRaises(BadNumber, msg=kind) as caught:
                as_one(BARRED, 1, kind)
            self.assertEqual(caught.exception.what, "kind")
            self.assertIs(caught.exception.number, kind)
        for bids, kind in [(BARRED, 1), (BARRED, 0), (Bids(1, []), 0), (Bids(3, []), 2)]:
            with self.assertRaises(BadNumber) as caught:
                as_one(bids, kind, kind)
            self.assertEqual((caught.exception.what, caught.exception.number), ("kind", kind))
        with self.assertRaises(BadNumber) as caught:
            as_one(Bids(1, []), 0, 1)
        self.assertEqual(caught.exception.number, 1)


class AtPrice(unittest.TestCase):
    def test_gains(self):
        for rng, bids in random_lists(59, 120, bottoms=(1, 2)):
            if bids.kinds == 1:
                continue
            kind = rng.randrange(bids.kinds)
            price = Fraction(rng.randint(0, 7), rng.choice([1, 2, 3]))
            told = at_price(bids, kind, pair(price))
            self.assertEqual(told.kinds, bids.kinds - 1)
            without = sum(weight * max(Fraction(0), fraction(numbers[kind]) - price) for weight, numbers in bids.rows)
            for _ in range(8):
                prices = random_prices(rng, told.kinds)
                old = prices[:kind] + [price] + prices[kind:]
                self.assertEqual(gain_by(told, prices), gain_by(bids, old) - without)
            if is_buyer(bids):
                self.assertIs(is_buyer(told), True)

    def test_told_lists(self):
        bids = Bids(3, [(1, (3, 5, 7)), (2, (6, 0, 2)), (-1, (4, 4, (1, 2)))])
        self.assertEqual(at_price(bids, 0, 2), Bids(2, [(1, (4, 6)), (-1, (2, 0))]))
        self.assertEqual(at_price(bids, 1, [9, 2]), Bids(2, [(1, ((5, 2), (13, 2))), (2, (6, 2)), (-1, (4, (1, 2)))]))
        self.assertEqual(at_price(bids, 2, 0), Bids(2, [(2, (4, 0)), (-1, ((7, 2), (7, 2)))]))
        self.assertEqual(at_price(Bids(2, [(1, (5, 1)), (-1, (4, 0))]), 1, 0), Bids(1, []))

    def test_great_prices(self):
        """As in point 60, the kind is then of no use."""
        rng = random.Random(60)
        for _ in range(30):
            bids = random_bids(rng, 3, 4, 5)
            for kind in range(3):
                others = tuple(k for k in range(3) if k != kind)
                for price in [top_of(bids), top_of(bids) + 3]:
                    self.assertEqual(at_price(bids, kind, price), onto(bids, others))

    def test_errors_in_their_order(self):
        for kind, price in [(0, 1), (None, None), (7, -1)]:
            with self.assertRaises(BadNumber) as caught:
                at_price(Bids(1, []), kind, price)
            self.assertEqual((caught.exception.what, caught.exception.number), ("kinds", 1))
        for kind in NO_KINDS:
            with self.assertRaises(BadNumber, msg=kind) as caught:
                at_price(BARRED, kind, None)
            self.assertEqual(caught.exception.what, "kind")
            self.assertIs(caught.exception.number, kind)
        for price in [None, -1, (-1, 2), (1, 0), (0, -3), True, 1.5, "1", (), (1, 2, 3), [1]]:
            with self.assertRaises(BadNumber, msg=price) as caught:
                at_price(BARRED, 0, price)
            self.assertEqual(caught.exception.what, "price")
            self.assertIs(caught.exception.number, price)


class Onto(unittest.TestCase):
    def test_gains(self):
        for rng, bids in random_lists(61, 120, bottoms=(1, 2)):
            kinds = rng.sample(list(range(bids.kinds)) + [None, None, None], rng.randint(1, 3))
            told = onto(bids, tuple(kinds))
            self.assertEqual(told, onto(bids, kinds))
            self.assertEqual(told.kinds, len(kinds))
            for _ in range(8):
                prices = random_prices(rng, len(kinds))
                old = [Fraction(1000)] * bids.kinds
                for kind, price in zip(kinds, prices):
                    if kind is not None:
                        old[kind] = price
                self.assertEqual(gain_by(told, prices), gain_by(bids, old))
            if is_buyer(bids):
                self.assertIs(is_buyer(told), True)

    def test_told_lists(self):
        bids = Bids(3, [(1, (3, 5, 7)), (2, (6, 0, 2)), (-1, (3, 4, (1, 2)))])
        self.assertEqual(onto(bids, (2, 0, 1)), Bids(3, [(1, (7, 3, 5)), (2, (2, 6, 0)), (-1, ((1, 2), 3, 4))]))
        self.assertEqual(onto(bids, [1, None]), Bids(2, [(1, (5, 0)), (-1, (4, 0))]))
        self.assertEqual(onto(bids, (0,)), Bids(1, [(2, (6,))]))
        self.assertEqual(onto(bids, (None, 1, None)), Bids(3, [(1, (0, 5, 0)), (-1, (0, 4, 0))]))
        self.assertEqual(onto(bids, (None,)), Bids(1, []))
        self.assertEqual(onto(bids, (None,) * 3), Bids(3, []))
        self.assertEqual(onto(Bids(1, [(3, (4,))]), (None, None, 0)), Bids(3, [(3, (0, 0, 4))]))

    def test_errors(self):
        for kinds in [None, 5, "01", (), (0, 1, None, None), (2,), (-1,), (0, 0), (1, None, 1), (True,), (False, 1),
                      (0.0,), ("0",), ((0,),), {0: 1}, (0, 1, 2), [None] * 4, 0]:
            with self.assertRaises(BadRow, msg=kinds) as caught:
                onto(BARRED, kinds)
            self.assertIs(caught.exception.row, kinds)


def capped_worth(worths, bundle, fits):
    """The greatest worth of a bundle with no more units of any kind that fits."""
    return max(worths[y] for y in box_by(bundle) if fits(y))


class Capped(unittest.TestCase):
    def check_capped(self, bids, told, worths, fits):
        """The worths are those of point 57, for all bundles."""
        self.assertIsInstance(told, Bids)
        self.assertEqual(told.kinds, bids.kinds)
        self.assertIs(is_buyer(told), True)
        for bundle in worths:
            self.assertEqual(fraction(worth(told, bundle)), capped_worth(worths, bundle, fits))

    def check_gains(self, rng, bids, told, many, kinds):
        """The gain is the least of those of point 57: so it is at one of these t, where a price meets a number."""
        for _ in range(4):
            prices = [Fraction(rng.randint(0, 12), 2) for _ in range(bids.kinds)]
            steps = [Fraction(k, 2) for k in range(2 * top_of(bids) + 1)]
            wanted = min(gain_by(bids, [p + t * (k in kinds) for k, p in enumerate(prices)]) + many * t for t in steps)
            self.assertEqual(gain_by(told, prices), wanted)

    def test_random_buyers(self):
        rng = random.Random(62)
        below = 0
        for _ in range(60):
            kinds = rng.choice([1, 2, 2, 3])
            bids = random_bids(rng, kinds, 4, 4, below=0) if rng.random() < 0.7 else random_buyer(rng, kinds, 3)
            worths = worths_of(bids, [3] * kinds)
            many = rng.randint(0, 3)
            told = capped(bids, many)
            self.check_capped(bids, told, worths, lambda y: sum(y) <= many)
            self.check_gains(rng, bids, told, many, range(kinds))
            kind = rng.randrange(kinds)
            told = capped_kind(bids, kind, many)
            self.check_capped(bids, told, worths, lambda y: y[kind] <= many)
            self.check_gains(rng, bids, told, many, [kind])
            below += any(weight < 0 for weight, _ in told.rows) and told != bids
        self.assertTrue(below > 5)

    def test_caps_one_behind_the_other(self):
        rng = random.Random(63)
        for _ in range(25):
            bids = random_buyer(rng, rng.choice([1, 2, 3]), 3)
            one, other = rng.randint(0, 4), rng.randint(0, 4)
            self.assertEqual(capped(capped(bids, one), other), capped(bids, min(one, other)))
            self.assertEqual(capped_kind(capped_kind(bids, 0, one), 0, other), capped_kind(bids, 0, min(one, other)))

    def test_nothing_and_all(self):
        rng = random.Random(64)
        for _ in range(25):
            bids = random_buyer(rng, rng.choice([1, 2, 3]), 4)
            self.assertEqual(capped(bids, 0), Bids(bids.kinds, []))
            most = [max(bundle[k] for bundle, _ in demand_map(bids)) for k in range(bids.kinds)]
            total = max(sum(bundle) for bundle, _ in demand_map(bids))
            for many in [total, total + 1, 10 ** 30]:
                self.assertEqual(capped(bids, many), bids)
            for kind in range(bids.kinds):
                for many in [most[kind], most[kind] + 1, 10 ** 30]:
                    self.assertEqual(capped_kind(bids, kind, many), bids)
                without = [None if k == kind else k for k in range(bids.kinds)]
                self.assertEqual(capped_kind(bids, kind, 0), onto(bids, without))

    def test_told_lists(self):
        bids = Bids(2, [(1, (3, 0)), (1, (0, 4))])
        self.assertEqual(capped(bids, 1), Bids(2, [(1, (3, 4))]))
        self.assertEqual(capped(bids, 2), bids)
        self.assertEqual(capped(Bids(3, [(1, (5, 0, 0)), (1, (0, 5, 0)), (1, (0, 0, 4))]), 2),
                         Bids(3, [(1, (0, 5, 4)), (1, (5, 0, 4)), (1, (5, 5, 0)), (-1, (5, 5, 4))]))
        self.assertEqual(capped(MENDED, 1), Bids(2, [(1, (3, 4))]))
        self.assertEqual(capped_kind(MENDED, 0, 0), Bids(2, [(1, (0, 4))]))
        self.assertEqual(capped(Bids(1, [(2, (5,)), (2, ((7, 2),))]), 3), Bids(1, [(2, (5,)), (1, ((7, 2),))]))
        self.assertEqual(capped_kind(Bids(2, [(2, (4, 3))]), 0, 1),
                         Bids(2, [(1, (4, 3)), (1, (0, 3))]))
        self.assertEqual(capped(Bids(3, []), 5), Bids(3, []))

    def test_errors_in_their_order(self):
        wrong = [None, -1, True, False, 1.0, "1", (1, 1), [1]]
        for many in wrong + [0, 1]:
            with self.assertRaises(NoBuyer):
                capped(BARRED, many)
            with self.assertRaises(NoBuyer):
                capped_kind(BARRED, None, many)
        for many in wrong:
            with self.assertRaises(BadNumber, msg=many) as caught:
                capped(MENDED, many)
            self.assertEqual(caught.exception.what, "many")
            self.assertIs(caught.exception.number, many)
            with self.assertRaises(BadNumber, msg=many) as caught:
                capped_kind(MENDED, 1, many)
            self.assertEqual(caught.exception.what, "many")
            self.assertIs(caught.exception.number, many)
        for kind in NO_KINDS:
            for many in [None, 1]:
                with self.assertRaises(BadNumber, msg=kind) as caught:
                    capped_kind(MENDED, kind, many)
                self.assertEqual(caught.exception.what, "kind")
                self.assertIs(caught.exception.number, kind)

    def test_sizes(self):
        """A product of 125, and somewhat beyond it."""
        rng = random.Random(65)
        for kinds, weights in [(1, [31] * 4), (2, [1, 2, 3, 4]), (3, [1, 1, 1, 1]), (3, [2, 2]), (3, [1, 4]),
                               (2, [7, 5])]:
            rows = [(weight, [(rng.randint(1, 10 ** 9), 1000) for _ in range(kinds)]) for weight in weights]
            bids = Bids(kinds, rows)
            many = sum(weights) // 2
            told = capped(bids, many)
            self.assertIs(is_buyer(told), True)
            for _ in range(10):
                bundle = tuple(rng.randint(0, many) for _ in range(kinds))
                while sum(bundle) > many:
                    bundle = tuple(max(0, units - 1) for units in bundle)
                self.assertEqual(worth(told, bundle), worth(bids, bundle))
            other = capped_kind(bids, kinds - 1, 1)
            self.assertIs(is_buyer(other), True)
            for _ in range(10):
                bundle = tuple(rng.randint(0, many) for _ in range(kinds))
                self.assertEqual(worth(other, bundle), worth(bids, bundle[:-1] + (min(1, bundle[-1]),)))
            prices = pairs(Fraction(rng.randint(0, 10 ** 6)) for _ in range(kinds))
            self.assertTrue(fraction(gain(told, prices)) <= fraction(gain(bids, prices)))


if __name__ == "__main__":
    unittest.main()
