"""Points 23 to 25 and 28 to 31: what a buyer demands at prices, and the regions of all taken bundles."""

import itertools
import random
import unittest
from fractions import Fraction

from allbids.bids import Bids
from allbids.demand import against, demand, demand_map, demanded, region_of
from allbids.errors import BadRow, NoBuyer, TooMany
from allbids.gains import gain
from allbids.regions import Region
from allbids.worths import worth

from oracles import (BARRED, MENDED, best_by, box_by, cost, fraction, fractions, gain_by, height, pair, pairs,
                     planes_by, random_buyer, top_of, worths_of)

WRONG_PRICES = [None, 5, "11", (), (1,), (1, 1, 1), (1, 0), (0, 1), (1, (0, 3)), (1, -1), (1, (-1, 2)), (1, True),
                (1, (1, 0)), (1, 1.5), (1, None), {0: 1, 1: 1}]
WRONG_BUNDLES = [None, 5, "11", (), (1,), (1, 1, 1), (1, -1), (1, True), (1, (1, 1)), (1, 1.0), (1, None),
                 {0: 1, 1: 1}]

# A buyer whose taken bundles are no more than one unit of the kind 2, or one of each other kind.
PARTED = Bids(3, [(1, (5, 5, 3)), (-1, (2, 2, 0)), (1, (2, 0, 0)), (1, (0, 2, 0))])


def with_units(bundle, *moves):
    units = list(bundle)
    for kind, change in moves:
        units[kind] += change
    return tuple(units)


def demanded_by(worths, bids, prices):
    """All bundles that come to the gain, by point 32."""
    here = gain_by(bids, prices)
    return sorted(bundle for bundle in worths if worths[bundle] - cost(bundle, prices) == here)


def taken_by(worths, bids):
    """All bundles that are demanded at prices above 0: integers are enough, as all numbers are such."""
    found = set()
    for prices in itertools.product(range(1, top_of(bids) + 2), repeat=bids.kinds):
        found.update(demanded_by(worths, bids, prices))
    return found


def region_by(worths, bundle):
    """The region by the fact of point 25."""
    kinds = range(len(bundle))
    here = worths[bundle]
    lows = [pair(worths[with_units(bundle, (i, 1))] - here) for i in kinds]
    highs = [pair(here - worths[with_units(bundle, (i, -1))]) if bundle[i] else None for i in kinds]
    gaps = [(i, j, pair(here - worths[with_units(bundle, (i, -1), (j, 1))]))
            for i in kinds for j in kinds if bundle[i] and i != j]
    return Region(lows, highs, gaps)


def some_buyers(seed, many):
    rng = random.Random(seed)
    yield rng, MENDED
    yield rng, PARTED
    for _ in range(many):
        yield rng, random_buyer(rng, rng.choice([1, 2, 2, 3]), rng.choice([2, 3, 4]))


def prices_for(rng, bids):
    """Prices above 0, on walls or beside them."""
    bottom = rng.choice([1, 1, 2, 7])
    return tuple(Fraction(rng.randint(1, (top_of(bids) + 1) * bottom), bottom) for _ in range(bids.kinds))


class Demanded(unittest.TestCase):
    def check_against(self, bids, prices, bundle, kinds):
        """The told kinds show that the bundle is not demanded, by the words of point 24."""
        self.assertEqual(list(kinds), sorted(set(kinds)))
        self.assertTrue(set(kinds) <= set(range(bids.kinds)) and kinds)
        bests = [(weight, set(best_by(numbers, prices))) for weight, numbers in bids.rows]
        is_open = sum(weight for weight, best in bests if best & set(kinds))
        is_bound = sum(weight for weight, best in bests if best <= set(kinds))
        units = sum(bundle[kind] for kind in kinds)
        self.assertTrue(units > is_open or units < is_bound)

    def test_demand_by_its_words(self):
        many = {True: 0, False: 0}
        for rng, bids in some_buyers(230, 40):
            worths = worths_of(bids)
            for _ in range(8):
                prices = prices_for(rng, bids)
                wanted = demanded_by(worths, bids, prices)
                told = demand(bids, pairs(prices))
                self.assertEqual(list(told), wanted)
                self.assertIsInstance(told, tuple)
                for bundle in rng.sample(sorted(worths), min(len(worths), 20)) + wanted[:3]:
                    many[bundle in wanted] += 1
                    self.assertIs(demanded(bids, pairs(prices), bundle), bundle in wanted)
                    kinds = against(bids, pairs(prices), bundle)
                    if bundle in wanted:
                        self.assertIsNone(kinds)
                    else:
                        self.check_against(bids, prices, bundle, kinds)
        self.assertTrue(min(many.values()) > 500)

    def test_the_words_of_point_23(self):
        """At no prices is more to be had."""
        for rng, bids in some_buyers(231, 10):
            prices = prices_for(rng, bids)
            for bundle in box_by([2] * bids.kinds):
                here = gain_by(bids, prices) + cost(bundle, prices)
                places = itertools.product(range(top_of(bids) + 1), repeat=bids.kinds)
                wanted = all(gain_by(bids, place) + cost(bundle, place) >= here for place in places)
                self.assertIs(demanded(bids, pairs(prices), bundle), wanted)

    def test_a_buyer_with_a_weight_below_zero(self):
        self.assertEqual(demand(MENDED, (2, 3)), ((0, 1), (1, 0), (1, 1)))
        self.assertEqual(demand(MENDED, (1, 2)), ((1, 1),))
        self.assertEqual(demand(MENDED, (2, (7, 2))), ((1, 0),))
        self.assertEqual(demand(MENDED, ((5, 2), (7, 2))), ((0, 1), (1, 0)))
        self.assertEqual(demand(MENDED, (3, 4)), ((0, 0), (0, 1), (1, 0)))
        self.assertEqual(demand(MENDED, [9, [18, 2]]), ((0, 0),))
        self.assertEqual(demand(PARTED, (2, 2, (1, 2))), ((0, 1, 0), (1, 0, 0), (1, 1, 0)))

    def test_on_walls_and_beside(self):
        bids = Bids(2, [(2, (4, 3)), (1, (2, 0))])
        self.assertEqual(demand(bids, (1, 1)), ((3, 0),))
        self.assertEqual(demand(bids, (2, 1)), ((0, 2), (1, 1), (1, 2), (2, 0), (2, 1), (3, 0)))
        self.assertEqual(demand(bids, (4, 3)), ((0, 0), (0, 1), (0, 2), (1, 0), (1, 1), (2, 0)))
        self.assertEqual(demand(bids, (2, (999, 1000))), ((0, 2), (1, 2)))
        self.assertEqual(demand(bids, ((2001, 1000), 1)), ((0, 2),))
        self.assertEqual(demand(Bids(3, []), (1, 1, 1)), ((0, 0, 0),))

    def test_more_and_fewer_units(self):
        bids = Bids(2, [(2, (4, 3)), (1, (2, 0))])
        self.assertEqual(against(bids, (1, 1), (4, 0)), (0,))
        self.assertIn(against(bids, (1, 1), (2, 0)), [(0,), (0, 1)])
        self.assertIn(against(bids, (1, 1), [3, 1]), [(1,), (0, 1)])
        self.assertEqual(against(bids, (2, 1), (0, 1)), (0, 1))
        self.assertIs(demanded(bids, (1, 1), [3, 0]), True)
        self.assertIs(demanded(bids, (9, 9), (10 ** 30, 0)), False)

    def test_errors_in_their_order(self):
        for ask in [demanded, against]:
            for prices, bundle in [(None, None), ((1, 1), None), ((0, 0), (1, 1)), ((1, 1), (0, 0))]:
                with self.assertRaises(NoBuyer):
                    ask(BARRED, prices, bundle)
            for prices in WRONG_PRICES:
                with self.assertRaises(BadRow, msg=prices) as caught:
                    ask(MENDED, prices, None)
                self.assertIs(caught.exception.row, prices)
            for bundle in WRONG_BUNDLES:
                with self.assertRaises(BadRow, msg=bundle) as caught:
                    ask(MENDED, (1, 1), bundle)
                self.assertIs(caught.exception.row, bundle)
        with self.assertRaises(NoBuyer):
            demand(BARRED, None)
        for prices in WRONG_PRICES:
            with self.assertRaises(BadRow, msg=prices) as caught:
                demand(MENDED, prices)
            self.assertIs(caught.exception.row, prices)

    def test_three_hundred_bundles_and_one_more(self):
        self.assertEqual(len(demand(Bids(1, [(299, (5,))]), (5,))), 300)
        self.assertEqual(len(demand(Bids(2, [(23, (5, 7))]), (5, 7))), 300)
        self.assertEqual(len(demand(Bids(2, [(299, (5, 7))]), (4, 6))), 300)
        for bids, prices in [(Bids(1, [(300, (5,))]), (5,)), (Bids(2, [(300, (5, 7))]), (4, 6)),
                             (Bids(2, [(200, (5, 7)), (200, (5, 8))]), (5, 7)),
                             (Bids(3, [(200, (5, 7, 9))] * 3), (5, 7, 9))]:
            with self.assertRaises(TooMany) as caught:
                demand(bids, prices)
            self.assertEqual((caught.exception.what, caught.exception.limit), ("bundles", 300))
        with self.assertRaises(BadRow):
            demand(Bids(1, [(300, (5,))]), (0,))


class Regions(unittest.TestCase):
    def test_regions_of_all_taken_bundles(self):
        for rng, bids in some_buyers(250, 40):
            worths = worths_of(bids)
            taken = taken_by(worths, bids)
            for bundle in worths:
                region = region_of(bids, bundle)
                if bundle in taken:
                    self.assertTrue(region == region_by(worths, bundle))
                else:
                    self.assertIsNone(region)
            told = demand_map(bids)
            self.assertEqual([bundle for bundle, _ in told], sorted(taken))
            for bundle, region in told:
                self.assertTrue(region == region_of(bids, list(bundle)))

    def test_tight_bounds_by_neighbors(self):
        region = region_of(MENDED, (1, 1))
        self.assertEqual((region.lows, region.highs, region.gaps),
                         (((0, 1), (0, 1)), ((2, 1), (3, 1)), ((0, 1, (2, 1)), (1, 0, (3, 1)))))
        region = region_of(MENDED, [0, 0])
        self.assertEqual((region.lows, region.highs, region.gaps), (((3, 1), (4, 1)), (None, None), ()))
        region = region_of(Bids(1, [(2, (5,)), (1, ((7, 2),))]), (2,))
        self.assertEqual((region.lows, region.highs, region.gaps), (((7, 2),), ((5, 1),), ()))

    def test_what_is_not_taken(self):
        self.assertIsNone(region_of(MENDED, (2, 0)))
        self.assertIsNone(region_of(MENDED, (0, 5)))
        self.assertIsNone(region_of(PARTED, (1, 0, 1)))
        self.assertIsNone(region_of(Bids(2, [(3, (4, 0))]), (0, 1)))
        self.assertIsNone(region_of(Bids(2, [(3, (4, 0))]), (4, 0)))
        self.assertIsNone(region_of(Bids(3, []), (0, 0, 10 ** 30)))
        self.assertTrue(region_of(Bids(3, []), (0, 0, 0)) == Region((0, 0, 0), (None,) * 3, ()))
        self.assertEqual([bundle for bundle, _ in demand_map(PARTED)],
                         [(0, 0, 0), (0, 0, 1), (0, 1, 0), (1, 0, 0), (1, 1, 0)])

    def test_a_great_weight(self):
        bids = Bids(2, [(200, (7, (9, 2)))])
        region = region_of(bids, (100, 100))
        self.assertEqual((region.lows, region.highs, region.gaps),
                         (((5, 2), (0, 1)), ((7, 1), (9, 2)), ((0, 1, (5, 2)), (1, 0, (-5, 2)))))
        self.assertIsNone(region_of(bids, (101, 100)))
        self.assertTrue(region_of(bids, (199, 0)) == Region((7, (9, 2)), (7, None), ()))

    def test_prices_are_in_some_region(self):
        """Prices above 0 on no wall are in just one, and the gain is that of its bundle."""
        for rng, bids in some_buyers(290, 30):
            told = demand_map(bids)
            for _ in range(12):
                bottom = rng.choice([1, 2, 7])
                prices = [Fraction(rng.randint(0, (top_of(bids) + 2) * bottom), bottom) for _ in range(bids.kinds)]
                found = [bundle for bundle, region in told if region.has(pairs(prices))]
                self.assertTrue(found)
                if min(prices) > 0:
                    self.assertEqual(found, list(demand(bids, pairs(prices))))
                    if all(height(plane, prices) != 0 for plane in planes_by(bids)):
                        self.assertEqual(len(found), 1)
                for bundle in found:
                    left = fraction(worth(bids, bundle)) - cost(bundle, prices)
                    self.assertEqual(pair(left), gain(bids, pairs(prices)))

    def test_errors(self):
        with self.assertRaises(NoBuyer):
            region_of(BARRED, None)
        with self.assertRaises(NoBuyer):
            demand_map(BARRED)
        for bundle in WRONG_BUNDLES:
            with self.assertRaises(BadRow, msg=bundle) as caught:
                region_of(MENDED, bundle)
            self.assertIs(caught.exception.row, bundle)

    def test_three_hundred_bundles_and_one_more(self):
        rows = [(4, (5 + k, 9 - k)) for k in range(5)] + [(3, (4, 4))]
        for bids in [Bids(1, [(299, (5,))]), Bids(2, rows), Bids(2, [(99, (5, 0)), (2, (0, 6))])]:
            told = demand_map(bids)
            self.assertEqual(len(told), 300)
            self.assertEqual([bundle for bundle, _ in told], sorted(bundle for bundle, _ in told))
        for bids in [Bids(1, [(300, (5,))]), Bids(2, rows + [(1, (9, 0))]), Bids(2, [(42, (5, 0)), (6, (0, 6))]),
                     Bids(3, [(200, (9, 9, 9))]), Bids(3, [(12, (5, 6, 7))])]:
            with self.assertRaises(TooMany) as caught:
                demand_map(bids)
            self.assertEqual((caught.exception.what, caught.exception.limit), ("bundles", 300))

    def test_great_maps(self):
        rng = random.Random(310)
        for kinds, weights in [(1, [200]), (1, [17] * 11 + [13]), (2, [1] * 12), (2, [2] * 11 + [1]), (3, [1] * 9),
                               (3, [3, 3, 3]), (3, [4, 2, 1, 1, 1])]:
            rows = [(weight, [(rng.randint(1, 10 ** 9), 1000) for _ in range(kinds)]) for weight in weights]
            bids = Bids(kinds, rows)
            told = demand_map(bids)
            found = {bundle: region for bundle, region in told}
            for bundle in rng.sample(sorted(found), min(len(found), 15)):
                self.assertTrue(found[bundle] == region_of(bids, bundle))
                place = [low + Fraction(1, 10 ** 7) for low in fractions(found[bundle].lows)]
                if found[bundle].has(pairs(place)):
                    self.assertIs(demanded(bids, pairs(place), bundle), True)
                    self.assertEqual(gain(bids, pairs(place)),
                                     pair(fraction(worth(bids, bundle)) - cost(bundle, place)))


if __name__ == "__main__":
    unittest.main()
