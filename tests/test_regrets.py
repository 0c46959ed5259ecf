"""Points 69 and 70: regret at all prices of a region."""

import itertools
import random
import unittest
from fractions import Fraction

from allbids.bids import Bids
from allbids.demand import demand_map
from allbids.errors import BadRow, NoBuyer, TooMany, Unlike
from allbids.regions import Region
from allbids.regrets import Choice, Worst, corners, least_worst, regret, worst_regret
from allbids.worths import worth

from oracles import BARRED, MENDED, cost, fraction, fractions, gain_by, pair, pairs, random_bids, random_buyer

WRONG_PRICES = [None, 5, "11", (), (1,), (1, 1, 1), (1, -1), (1, (-1, 2)), (1, True), (1, (1, 0)), (1, 1.5), (1, None),
                {0: 1, 1: 1}]
WRONG_BUNDLES = [None, 5, "11", (), (1,), (1, 1, 1), (1, -1), (1, True), (1, (1, 1)), (1, 1.0), (1, None),
                 {0: 1, 1: 1}]


def regret_by(bids, prices, bundle):
    return gain_by(bids, prices) + cost(bundle, prices) - fraction(worth(bids, bundle))


def random_region(rng, kinds, closed=0.5):
    """A region of integers below 5."""
    while True:
        lows = [rng.randint(0, 3) for _ in range(kinds)]
        highs = [rng.randint(0, 5) if rng.random() < closed else None for _ in range(kinds)]
        gaps = []
        for _ in range(rng.choice([0, 1, 2, 3]) if kinds > 1 else 0):
            i, j = rng.sample(range(kinds), 2)
            gaps.append((i, j, rng.randint(-2, 3)))
        try:
            return Region(lows, highs, gaps)
        except Unlike:
            continue


def places_in(region, far=13):
    """All integers of a region that are not far: its corners are no further."""
    return [p for p in itertools.product(range(far), repeat=region.kinds) if region.has(p)]


def corners_by(region):
    """Integers of the region at which the bounds that are kept just so hold all prices together: as bounds are of
    these forms, such prices are the corners."""
    found = []
    for place in places_in(region):
        joined = {k: k for k in range(region.kinds + 1)}

        def root(k):
            while joined[k] != k:
                k = joined[k]
            return k

        zero = region.kinds
        for k in range(zero):
            if (place[k], 1) == region.lows[k] or (place[k], 1) == region.highs[k]:
                joined[root(k)] = root(zero)
        for i, j, c in region.gaps:
            if (place[i] - place[j], 1) == c:
                joined[root(i)] = root(j)
        if len({root(k) for k in range(zero + 1)}) == 1:
            found.append(pairs(place))
    return tuple(found)


class Corners(unittest.TestCase):
    def test_random_regions(self):
        rng = random.Random(69)
        most = 0
        for _ in range(150):
            region = random_region(rng, rng.choice([1, 2, 3]), rng.choice([0.3, 0.9]))
            told = corners(region)
            self.assertIsInstance(told, tuple)
            self.assertEqual(told, corners_by(region))
            most = max(most, len(told))
        self.assertTrue(most > 5)

    def test_told_corners(self):
        self.assertEqual(corners(Region((1,), (None,), ())), (((1, 1),),))
        self.assertEqual(corners(Region(((1, 2),), ((3, 4),), ())), (((1, 2),), ((3, 4),)))
        self.assertEqual(corners(Region((0, 0), (None, None), ())), (((0, 1), (0, 1)),))
        self.assertEqual(corners(Region((0, 0), (2, 3), ())),
                         (((0, 1), (0, 1)), ((0, 1), (3, 1)), ((2, 1), (0, 1)), ((2, 1), (3, 1))))
        self.assertEqual(corners(Region((0, 0), (None, None), ((0, 1, (1, 2)),))),
                         (((0, 1), (0, 1)), ((1, 2), (0, 1))))
        self.assertEqual(corners(Region((0, 1), (None, 3), ((0, 1, 0), (1, 0, 1)))),
                         (((0, 1), (1, 1)), ((1, 1), (1, 1)), ((2, 1), (3, 1)), ((3, 1), (3, 1))))
        self.assertEqual(corners(Region((1, (1, 3), 5), (1, (1, 3), 5), ())), (((1, 1), (1, 3), (5, 1)),))
        self.assertEqual(len(corners(Region((0, 0, 0), (1, 1, 1), ()))), 8)

    def test_in_the_order_of_values(self):
        told = corners(Region(((1, 3), (1, 7)), ((1, 2), (12, 5)), ()))
        self.assertEqual(told, (((1, 3), (1, 7)), ((1, 3), (12, 5)), ((1, 2), (1, 7)), ((1, 2), (12, 5))))
        self.assertEqual(told, tuple(sorted(told, key=fractions)))


class Regrets(unittest.TestCase):
    def test_regret(self):
        rng = random.Random(70)
        for _ in range(60):
            bids = random_buyer(rng, rng.choice([1, 2, 3]))
            for _ in range(5):
                prices = [Fraction(rng.randint(0, 12), rng.choice([1, 2, 7])) for _ in range(bids.kinds)]
                bundle = tuple(rng.randint(0, 3) for _ in range(bids.kinds))
                told = regret(bids, pairs(prices), bundle)
                self.assertEqual(told, pair(regret_by(bids, prices, bundle)))
                self.assertTrue(told[0] >= 0)

    def test_told_regrets(self):
        self.assertEqual(regret(MENDED, (0, 0), (0, 0)), (6, 1))
        self.assertEqual(regret(MENDED, (2, (7, 2)), [0, 1]), (1, 2))
        self.assertEqual(regret(MENDED, [[1, 2], 0], (1, 1)), (0, 1))
        self.assertEqual(regret(MENDED, (9, 9), (60, 0)), (537, 1))

    def test_no_regret_in_the_region_of_a_taken_bundle(self):
        rng = random.Random(71)
        for _ in range(30):
            bids = random_buyer(rng, rng.choice([1, 2, 2, 3]))
            for bundle, region in demand_map(bids):
                for _ in range(5):
                    prices = pairs(Fraction(rng.randint(0, 12), 2) for _ in range(bids.kinds))
                    self.assertIs(regret(bids, prices, bundle) == (0, 1), region.has(prices))

    def test_errors_in_their_order(self):
        for prices, bundle in [(None, None), ((1, 1), None), ((1, 1), (1, 1))]:
            with self.assertRaises(NoBuyer):
                regret(BARRED, prices, bundle)
        for prices in WRONG_PRICES:
            for bundle in [None, (1, 1)]:
                with self.assertRaises(BadRow, msg=prices) as caught:
                    regret(MENDED, prices, bundle)
                self.assertIs(caught.exception.row, prices)
        for bundle in WRONG_BUNDLES:
            with self.assertRaises(BadRow, msg=bundle) as caught:
                regret(MENDED, (0, 1), bundle)
            self.assertIs(caught.exception.row, bundle)


class WorstRegret(unittest.TestCase):
    def check_worst(self, bids, bundle, region):
        found = worst_regret(bids, bundle, region)
        self.assertIsInstance(found, Worst)
        self.assertEqual(found.number, pair(fraction(found.number)))
        self.assertEqual(found.prices, pairs(fractions(found.prices)))
        self.assertIs(region.has(found.prices), True)
        self.assertEqual(regret(bids, found.prices, bundle), found.number)
        return fraction(found.number)

    def test_random_regions(self):
        rng = random.Random(72)
        endless = 0
        for _ in range(120):
            bids = random_buyer(rng, rng.choice([1, 2, 2, 3]), 3)
            region = random_region(rng, bids.kinds, rng.choice([0.4, 0.9]))
            bundle = tuple(rng.choice([0, 0, 1, 2]) for _ in range(bids.kinds))
            if any(units and high is None for units, high in zip(bundle, region.highs)):
                self.assertIsNone(worst_regret(bids, bundle, region))
                endless += 1
                continue
            told = self.check_worst(bids, bundle, region)
            self.assertEqual(told, max(regret_by(bids, place, bundle) for place in places_in(region)))
            self.assertEqual(worst_regret(bids, list(bundle), region).number, pair(told))
        self.assertTrue(20 < endless < 80)

    def test_told_worst_regrets(self):
        everywhere = Region((0, 0), (None, None), ())
        found = worst_regret(MENDED, (0, 0), everywhere)
        self.assertEqual((found.number, found.prices), ((6, 1), ((0, 1), (0, 1))))
        self.assertIsNone(worst_regret(MENDED, (0, 1), everywhere))
        self.assertIsNone(worst_regret(MENDED, (1, 0), Region((0, 0), (None, 4), ())))
        # There is no high of the kind 0, but only as that of the kind 1 is not there.
        self.assertIsNone(worst_regret(MENDED, (1, 0), Region((0, 0), (None, None), ((0, 1, 0), (1, 0, 0)))))
        self.assertEqual(self.check_worst(MENDED, (1, 0), Region((0, 0), (None, 4), ((0, 1, 1),))), 3)
        self.assertEqual(self.check_worst(MENDED, (1, 1), Region((0, 0), (2, 3), ())), 0)
        self.assertEqual(self.check_worst(MENDED, (1, 1), Region((0, 0), (3, (7, 2)), ())), Fraction(1))
        self.assertEqual(self.check_worst(MENDED, (0, 2), Region((1, 1), (1, (10, 3)), ())), Fraction(14, 3))

    def test_one_place(self):
        rng = random.Random(73)
        for _ in range(20):
            bids = random_buyer(rng, rng.choice([1, 2, 3]))
            prices = pairs(Fraction(rng.randint(0, 12), 7) for _ in range(bids.kinds))
            bundle = tuple(rng.randint(0, 2) for _ in range(bids.kinds))
            found = worst_regret(bids, bundle, Region(prices, prices, ()))
            self.assertEqual((found.number, found.prices), (regret(bids, prices, bundle), prices))

    def test_errors_in_their_order(self):
        other = Region((0,), (1,), ())
        for bundle in [None, (1, 1)]:
            with self.assertRaises(NoBuyer):
                worst_regret(BARRED, bundle, other)
        for bundle in WRONG_BUNDLES:
            with self.assertRaises(BadRow, msg=bundle) as caught:
                worst_regret(MENDED, bundle, other)
            self.assertIs(caught.exception.row, bundle)
        for region in [other, Region((0, 0, 0), (None,) * 3, ())]:
            for bundle in [(1, 1), (0, 0)]:
                with self.assertRaises(Unlike) as caught:
                    worst_regret(MENDED, bundle, region)
                self.assertEqual(caught.exception.what, "kinds")

    def test_worst_keeps_what_it_is_given(self):
        made = Worst([4, 3], [[1, 2]])
        self.assertEqual((made.number, made.prices), ((4, 3), ((1, 2),)))


class LeastWorst(unittest.TestCase):
    def test_random_regions(self):
        rng = random.Random(74)
        several = 0
        for _ in range(80):
            bids = random_buyer(rng, rng.choice([1, 2, 2, 3]), 3)
            region = random_region(rng, bids.kinds, rng.choice([0.4, 0.9]))
            worst = {}
            for bundle, _ in demand_map(bids):
                found = worst_regret(bids, bundle, region)
                if found is not None:
                    worst[bundle] = fraction(found.number)
            number = min(worst.values())
            told = least_worst(bids, region)
            self.assertIsInstance(told, Choice)
            self.assertEqual(told.number, pair(number))
            self.assertEqual(told.bundles, tuple(sorted(bundle for bundle in worst if worst[bundle] == number)))
            several += len(told.bundles) > 1
        self.assertTrue(several > 10)

    def test_told_choices(self):
        found = least_worst(MENDED, Region((0, 0), (None, None), ()))
        self.assertEqual((found.number, found.bundles), ((6, 1), ((0, 0),)))
        found = least_worst(MENDED, Region((0, 0), (2, 3), ()))
        self.assertEqual((found.number, found.bundles), ((0, 1), ((1, 1),)))
        found = least_worst(Bids(1, [(2, (5,))]), Region((0,), (10,), ()))
        self.assertEqual((found.number, found.bundles), ((5, 1), ((1,),)))
        found = least_worst(Bids(1, [(2, (5,))]), Region((0,), (15,), ()))
        self.assertEqual((found.number, found.bundles), ((10, 1), ((0,), (1,))))
        found = least_worst(Bids(1, [(2, (5,))]), Region(((1, 2),), ((11, 2),), ()))
        self.assertEqual((found.number, found.bundles), ((1, 1), ((2,),)))
        found = least_worst(Bids(3, []), Region((1, 1, 1), (2, 2, None), ()))
        self.assertEqual((found.number, found.bundles), ((0, 1), ((0, 0, 0),)))
        found = least_worst(MENDED, Region((2, 3), (2, 3), ()))
        self.assertEqual((found.number, found.bundles), ((0, 1), ((0, 1), (1, 0), (1, 1))))

    def test_errors_in_their_order(self):
        other = Region((0,), (1,), ())
        with self.assertRaises(NoBuyer):
            least_worst(BARRED, other)
        great = Bids(2, [(42, (5, 0)), (6, (0, 6))])
        for bids in [MENDED, great]:
            with self.assertRaises(Unlike) as caught:
                least_worst(bids, other)
            self.assertEqual(caught.exception.what, "kinds")
        for region in [Region((0, 0), (None, None), ()), Region((0, 0), (0, 0), ())]:
            with self.assertRaises(TooMany) as caught:
                least_worst(great, region)
            self.assertEqual((caught.exception.what, caught.exception.limit), ("bundles", 300))

    def test_three_hundred_bundles(self):
        bids = Bids(2, [(99, (5, 0)), (2, (0, 6))])
        found = least_worst(bids, Region((0, 0), (10, 12), ()))
        self.assertEqual((found.number, found.bundles), ((50 * 5 + 6, 1), ((49, 1), (50, 1))))
        found = least_worst(bids, Region((5, 6), (5, 6), ()))
        self.assertEqual((found.number, len(found.bundles)), ((0, 1), 300))

    def test_sizes(self):
        rng = random.Random(75)
        for kinds, weights in [(1, [100, 100]), (2, [1] * 12), (3, [1] * 9), (3, [3, 3, 3])]:
            rows = [(weight, [(rng.randint(1, 10 ** 9), 1000) for _ in range(kinds)]) for weight in weights]
            bids = Bids(kinds, rows)
            region = Region((0,) * kinds, [(rng.randint(1, 10 ** 9), 1000) for _ in range(kinds)], ())
            found = least_worst(bids, region)
            for bundle in found.bundles:
                self.assertEqual(worst_regret(bids, bundle, region).number, found.number)
            for bundle, _ in rng.sample(demand_map(bids), 20):
                self.assertTrue(fraction(worst_regret(bids, bundle, region).number) >= fraction(found.number))

    def test_choice_keeps_what_it_is_given(self):
        made = Choice([4, 3], [[1, 2], (0, 0)])
        self.assertEqual((made.number, made.bundles), ((4, 3), ((1, 2), (0, 0))))


if __name__ == "__main__":
    unittest.main()
