"""Points 62 to 68: markets, all prices that clear, and who gets what."""

import itertools
import random
import unittest
from fractions import Fraction

from allbids.bids import Bids
from allbids.errors import BadNumber, BadRow, NoBuyer, Unlike
from allbids.gains import gain
from allbids.markets import Market, clearing, clears, dealt, least_prices, whole_worth
from allbids.regions import Region
from allbids.worths import worth

from oracles import (BARRED, MENDED, box_by, cost, fraction, fractions, gain_by, pair, pairs, random_bids,
                     random_buyer, top_of, whole_gain, worths_of)

WRONG_BUNDLES = [None, 5, "11", (), (1,), (1, 1, 1), (1, -1), (1, True), (1, (1, 1)), (1, 1.0), (1, None),
                 {0: 1, 1: 1}]
WRONG_PRICES = [None, 5, "11", (), (1,), (1, 1, 1), (1, -1), (1, (-1, 2)), (1, True), (1, (1, 0)), (1, 1.5), (1, None),
                {0: 1, 1: 1}]


def some_markets(seed, many, top=3, most=3):
    rng = random.Random(seed)
    for _ in range(many):
        kinds = rng.choice([1, 2, 2, 3])
        buyers = [random_buyer(rng, kinds, top) for _ in range(rng.randint(1, 3))]
        if rng.random() < 0.3:
            buyers.append(buyers[0])
        yield rng, Market(buyers, [rng.randint(0, most) for _ in range(kinds)])


def added(bundles):
    return tuple(sum(units) for units in zip(*bundles))


def all_of(market):
    total = market.buyers[0]
    for bids in market.buyers[1:]:
        total = total + bids
    return total


def least_sums(market):
    """The least sum of gains and of the cost of the supply, and all integers at which it is so."""
    bids = all_of(market)
    places = itertools.product(range(top_of(bids) + 2), repeat=market.kinds)
    sums = {place: whole_gain(bids, place) + cost(market.supply, place) for place in places}
    least = min(sums.values())
    return least, [place for place in sums if sums[place] == least]


def clears_by(market, prices, bundles):
    """The words of point 62."""
    for bids, bundle in zip(market.buyers, bundles):
        if fraction(worth(bids, bundle)) != cost(bundle, prices) + gain_by(bids, prices):
            return False
    left = [units - given for units, given in zip(market.supply, added(bundles))]
    return all(units == 0 or units > 0 and price == 0 for units, price in zip(left, prices))


def dealings(market):
    """All tuples of bundles that the supply is enough for."""
    found = [((), market.supply)]
    for _ in market.buyers:
        found = [(bundles + (bundle,), tuple(a - b for a, b in zip(left, bundle)))
                 for bundles, left in found for bundle in box_by(left)]
    return [bundles for bundles, _ in found]


class Markets(unittest.TestCase):
    def test_attributes(self):
        one, other = Bids(2, [(1, (3, 4))]), MENDED
        for make in (tuple, list):
            market = Market(make([one, other]), make([3, 0]))
            self.assertEqual((market.buyers, market.supply, market.kinds), ((one, other), (3, 0), 2))
            self.assertIsInstance(market.buyers, tuple)
            self.assertIsInstance(market.supply, tuple)

    def test_lists_changed_behind_the_call(self):
        buyers, supply = [Bids(1, [(1, (3,))])], [2]
        market = Market(buyers, supply)
        buyers.append(MENDED)
        supply[0] = 0
        self.assertEqual((market.buyers, market.supply), ((Bids(1, [(1, (3,))]),), (2,)))
        self.assertEqual(least_prices(market), ((0, 1),))

    def test_errors_in_their_order(self):
        for buyers in [(), []]:
            for supply in [None, (), (1,)]:
                with self.assertRaises(BadNumber) as caught:
                    Market(buyers, supply)
                self.assertEqual((caught.exception.what, caught.exception.number), ("buyers", 0))
        for buyers in [(MENDED, Bids(1, [])), (BARRED, MENDED, Bids(3, [])), [Bids(1, [(-1, (1,))]), BARRED]]:
            for supply in [None, (1,), (1, 1)]:
                with self.assertRaises(Unlike) as caught:
                    Market(buyers, supply)
                self.assertEqual(caught.exception.what, "kinds")
        for supply in WRONG_BUNDLES:
            for buyers in [(MENDED,), (MENDED, BARRED), [BARRED]]:
                with self.assertRaises(BadRow, msg=supply) as caught:
                    Market(buyers, supply)
                self.assertIs(caught.exception.row, supply)
        for buyers in [(BARRED,), (MENDED, BARRED), (MENDED, Bids(2, [(-1, (1, 1))]), MENDED)]:
            with self.assertRaises(NoBuyer):
                Market(buyers, (1, 1))


class Clearing(unittest.TestCase):
    def test_random_markets(self):
        for rng, market in some_markets(62, 150):
            least, places = least_sums(market)
            region = clearing(market)
            self.assertIsInstance(region, Region)
            self.assertEqual(whole_worth(market), (least, 1))
            told = least_prices(market)
            self.assertEqual(told, tuple((min(place[k] for place in places), 1) for k in range(market.kinds)))
            self.assertEqual(told, region.lows)
            for place in itertools.product(range(top_of(all_of(market)) + 2), repeat=market.kinds):
                self.assertIs(region.has(place), place in places)
            for _ in range(6):
                prices = [Fraction(rng.randint(0, 12), 3) for _ in range(market.kinds)]
                here = gain_by(all_of(market), prices) + cost(market.supply, prices)
                self.assertIs(region.has(pairs(prices)), here == least)

    def test_by_the_worths_of_point_64(self):
        for rng, market in some_markets(64, 60):
            kinds = range(market.kinds)
            supply = market.supply
            worths = worths_of(all_of(market), [units + 1 for units in supply])

            def v(*moves):
                units = list(supply)
                for kind, change in moves:
                    units[kind] += change
                return worths[tuple(units)]

            lows = [v((i, 1)) - v() for i in kinds]
            highs = [v() - v((i, -1)) if supply[i] else None for i in kinds]
            gaps = [(i, j, v() - v((i, -1), (j, 1))) for i in kinds for j in kinds if supply[i] and i != j]
            self.assertTrue(clearing(market) == Region(lows, highs, gaps))

    def test_the_greatest_sum_of_worths(self):
        for rng, market in some_markets(63, 40, most=2):
            worths = [worths_of(bids, market.supply) for bids in market.buyers]
            wanted = max(sum(table[bundle] for table, bundle in zip(worths, bundles)) for bundles in dealings(market))
            self.assertEqual(whole_worth(market), (wanted, 1))

    def test_supplies_of_nothing_and_of_more_than_all_want(self):
        market = Market((MENDED, Bids(2, [(2, (1, 5))])), (0, 0))
        self.assertEqual((least_prices(market), whole_worth(market)), (((3, 1), (5, 1)), (0, 1)))
        self.assertEqual((clearing(market).highs, clearing(market).gaps), ((None, None), ()))
        market = Market((MENDED, Bids(2, [(2, (1, 5))])), (50, 60))
        self.assertEqual((least_prices(market), whole_worth(market)), (((0, 1), (0, 1)), (16, 1)))
        self.assertTrue(clearing(market) == Region((0, 0), (0, 0), ()))
        market = Market((MENDED,), (0, 1))
        self.assertTrue(clearing(market) == Region((2, 0), (None, 4), ((1, 0, 1),)))
        self.assertEqual(whole_worth(market), (4, 1))

    def test_one_buyer_and_equal_buyers(self):
        bids = Bids(1, [(2, (5,)), (1, ((7, 2),))])
        self.assertTrue(clearing(Market([bids], (2,))) == Region(((7, 2),), (5,), ()))
        self.assertTrue(clearing(Market([bids, bids], [4])) == Region(((7, 2),), (5,), ()))
        self.assertTrue(clearing(Market([bids] * 3, [6])) == Region(((7, 2),), (5,), ()))
        self.assertEqual(whole_worth(Market([bids] * 3, [7])), (67, 2))
        self.assertEqual(least_prices(Market([bids] * 3, [7])), ((7, 2),))
        self.assertEqual(least_prices(Market([Bids(3, [])], [0, 1, 2])), ((0, 1),) * 3)

    def test_great_markets(self):
        rng = random.Random(65)
        for kinds in [1, 2, 3]:
            for weights in [1, 200]:
                buyers = []
                for _ in range(6):
                    rows = [(rng.randint(1, weights), [(rng.randint(0, 10 ** 9), 1000) for _ in range(kinds)])
                            for _ in range(4)]
                    buyers.append(Bids(kinds, rows))
                market = Market(buyers, [rng.randint(0, 20) for _ in range(kinds)])
                told = least_prices(market)
                self.assertEqual(clearing(market).lows, told)
                self.check_least(market, fractions(told))
                bundles = dealt(market, told)
                self.assertIs(clears(market, told, bundles), True)
                total = sum(fraction(worth(bids, bundle)) for bids, bundle in zip(buyers, bundles))
                self.assertEqual(pair(total), whole_worth(market))

    def check_least(self, market, prices):
        """Whichever set of prices is a little lower, the sum of gains and cost grows."""
        bids = all_of(market)
        here = gain_by(bids, prices) + cost(market.supply, prices)
        self.assertEqual(pair(here), whole_worth(market))
        step = Fraction(1, 10 ** 7)
        for moves in itertools.product([0, 1], repeat=market.kinds):
            if any(moves) and all(price > 0 for price, move in zip(prices, moves) if move):
                beside = [price - step * move for price, move in zip(prices, moves)]
                self.assertTrue(gain_by(bids, beside) + cost(market.supply, beside) > here)


class Dealt(unittest.TestCase):
    def check_dealt(self, market, prices):
        bundles = dealt(market, pairs(prices))
        self.assertIsInstance(bundles, tuple)
        self.assertEqual(len(bundles), len(market.buyers))
        for bundle in bundles:
            self.assertIsInstance(bundle, tuple)
            self.assertTrue(len(bundle) == market.kinds and min(bundle) >= 0)
        self.assertTrue(clears_by(market, prices, bundles))
        self.assertIs(clears(market, pairs(prices), bundles), True)
        return bundles

    def test_random_markets(self):
        count = {True: 0, False: 0}
        for rng, market in some_markets(67, 120):
            region = clearing(market)
            places = [fractions(region.lows)] + [[Fraction(rng.randint(0, 8), 2) for _ in range(market.kinds)]
                                                 for _ in range(8)]
            if None not in region.highs:
                places.append(fractions(region.highs))
            for prices in places:
                inside = region.has(pairs(prices))
                count[inside] += 1
                if inside:
                    self.check_dealt(market, prices)
                else:
                    self.assertIsNone(dealt(market, pairs(prices)))
        self.assertTrue(min(count.values()) > 100)

    def test_clears_by_its_words(self):
        count = {True: 0, False: 0}
        for rng, market in some_markets(68, 60, most=2):
            region = clearing(market)
            places = [fractions(region.lows), [Fraction(rng.randint(0, 3)) for _ in range(market.kinds)]]
            options = dealings(market)
            for prices in places:
                for bundles in rng.sample(options, min(len(options), 40)):
                    wanted = clears_by(market, prices, bundles)
                    count[wanted] += 1
                    self.assertIs(clears(market, pairs(prices), bundles), wanted)
                if dealt(market, pairs(prices)) is None:
                    self.assertFalse(any(clears_by(market, prices, bundles) for bundles in options[:200]))
        self.assertTrue(min(count.values()) > 100)

    def test_a_unit_moved(self):
        one, other = Bids(2, [(2, (5, 3))]), Bids(2, [(1, (4, 0)), (1, (0, 4))])
        market = Market((one, other), (2, 2))
        told = least_prices(market)
        bundles = self.check_dealt(market, fractions(told))
        for giver, taker in itertools.permutations(range(2)):
            for kind in range(2):
                moved = [list(bundle) for bundle in bundles]
                moved[giver][kind] -= 1
                moved[taker][kind] += 1
                moved = tuple(tuple(bundle) for bundle in moved)
                if min(moved[giver]) >= 0:
                    self.assertIs(clears(market, told, moved), clears_by(market, fractions(told), moved))
                else:
                    self.assertIs(clears(market, told, moved), False)

    def test_free_units(self):
        """Units of a kind that costs nothing may be left or given to anybody."""
        market = Market((Bids(2, [(1, (5, 0))]), Bids(2, [(1, (4, 1))])), (2, 3))
        for bundles, wanted in [(((1, 0), (1, 0)), True), (((1, 3), (1, 0)), True), (((1, 1), (1, 2)), True),
                                (((1, 1), (1, 3)), False), (((2, 0), (0, 1)), False), (((1, 0), (0, 1)), False)]:
            self.assertIs(clears(market, (0, 0), bundles), wanted)
        self.check_dealt(market, (0, 0))
        self.assertIsNone(dealt(market, (4, 1)))
        self.assertIsNone(dealt(market, (0, 1)))
        self.assertEqual(dealt(market, (4, 0)), None)
        market = Market((Bids(2, [(1, (5, 0))]), Bids(2, [(1, (4, 1))])), (1, 3))
        self.assertIs(clears(market, (4, 0), ((1, 0), (0, 1))), True)
        self.assertIs(clears(market, ((299, 100), 0), ((1, 0), (0, 1))), False)
        self.assertIs(clears(market, (3, 0), ((1, 0), (0, 1))), True)
        self.assertIs(clears(market, ((7, 2), 0), ((1, 2), (0, 1))), True)
        self.assertIs(clears(market, ((7, 2), 0), ((1, 3), (0, 0))), False)
        self.assertIs(clears(market, ((7, 2), (1, 2)), ((1, 2), (0, 1))), False)

    def test_equal_buyers(self):
        bids = Bids(2, [(1, (3, 4)), (2, (2, 2))])
        market = Market([bids] * 4, (6, 6))
        bundles = self.check_dealt(market, fractions(least_prices(market)))
        for order in itertools.permutations(bundles):
            self.assertIs(clears(market, least_prices(market), order), True)

    def test_buyers_with_weights_below_zero(self):
        market = Market([MENDED, MENDED], (1, 1))
        bundles = self.check_dealt(market, fractions(least_prices(market)))
        self.assertIn(bundles, [((1, 0), (0, 1)), ((0, 1), (1, 0))])
        self.assertIs(clears(market, least_prices(market), ((1, 1), (0, 0))), False)

    def test_any_value(self):
        market = Market([Bids(1, [(1, (5,))]), Bids(1, [(1, (5,))])], (1,))
        self.assertIs(clears(market, (5,), ((1,), (0,))), True)
        self.assertIs(clears(market, [[10, 2]], ((0,), (1,))), True)
        for value in [None, True, 5, "10", (), ((1,),), ((1,), (0,), (0,)), [(1,), (0,)], ([1], [0]), ((1,), [0]),
                      ((1,), 0), ((1,), None), ((True,), (0,)), ((1,), (False,)), ((1, 0), (0,)), ((1,), ()),
                      ((2,), (-1,)), ((1.0,), (0,)), (((1, 1),), (0,)), {(1,): 1, (0,): 0}, ("1", "0"), object(),
                      ((1,), (1,)), ((0,), (0,)), ((10 ** 30,), (0,))]:
            self.assertIs(clears(market, (5,), value), False, value)
            self.assertIs(clears(market, (9,), value), False)
        market = Market([MENDED], (0, 0))
        for value in [(), ((),), ((0,),), (0, 0), ((0, 0), (0, 0)), [(0, 0)], ([0, 0],)]:
            self.assertIs(clears(market, (9, 9), value), False)
        self.assertIs(clears(market, (9, 9), ((0, 0),)), True)

    def test_prices_that_are_none(self):
        market = Market([MENDED, MENDED], (1, 1))
        for prices in WRONG_PRICES:
            for ask in [lambda: dealt(market, prices), lambda: clears(market, prices, ((1, 0), (0, 1))),
                        lambda: clears(market, prices, None)]:
                with self.assertRaises(BadRow, msg=prices) as caught:
                    ask()
                self.assertIs(caught.exception.row, prices)

    def test_equal_calls_tell_the_same(self):
        bids = random_bids(random.Random(9), 2, 4, 5, below=0)
        market = Market([bids] * 3, (4, 4))
        self.assertEqual(dealt(market, least_prices(market)), dealt(market, list(least_prices(market))))
        self.assertTrue(gain(bids, least_prices(market))[0] >= 0)

    def test_many_units(self):
        rng = random.Random(68)
        for kinds in [2, 3]:
            buyers = [Bids(kinds, [(rng.randint(20, 200), [5 + rng.randint(0, 1) for _ in range(kinds)])
                                   for _ in range(2)]) for _ in range(12)]
            for supply in [(60,) * kinds, (40, 20, 0)[:kinds], (400,) * kinds]:
                market = Market(buyers, supply)
                region = clearing(market)
                self.check_dealt(market, fractions(region.lows))
                if None not in region.highs:
                    self.check_dealt(market, fractions(region.highs))


if __name__ == "__main__":
    unittest.main()
