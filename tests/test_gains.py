"""Points 10 to 14: gains, bests, what is taken, slopes, sets of kinds, and bends along lines."""

import itertools
import random
import unittest
from fractions import Fraction

from allbids.bids import Bids
from allbids.errors import BadRow, Unlike
from allbids.gains import bends, best, convex_at, gain, least_of, most_of, slope, taken

from oracles import BARRED, best_by, fraction, gain_by, pair, pairs, random_bids, random_lists

WRONG_PRICES = [None, 5, "11", (), (1,), (1, 2, 3), (1, -1), [1, (-1, 2)], (1, True), (1, (1, 0)), (1, None),
                (1, 1.5), {0: 1, 1: 2}, ((1, 2, 3), 1), ("1", 1)]


def some_prices(rng, kinds, top=6):
    """Prices that often lie on planes of small lists."""
    return tuple(Fraction(rng.randint(0, 2 * top), rng.choice([1, 2, 2])) for _ in range(kinds))


class Gains(unittest.TestCase):
    def test_gain(self):
        bids = Bids(2, [(2, (3, 0)), (1, (0, 1)), (-1, (1, 1))])
        self.assertEqual(gain(bids, (0, 0)), (6, 1))
        self.assertEqual(gain(bids, [[1, 2], (6, 4)]), (9, 2))
        self.assertEqual(gain(bids, (10 ** 9, 10 ** 9)), (0, 1))
        self.assertEqual(gain(Bids(3, []), (0, 1, 2)), (0, 1))
        self.assertEqual(gain(Bids(1, [(3, ((1, 3),))]), ((1, 7),)), (4, 7))
        self.assertEqual(gain(Bids(1, [(-2, (4,))]), (0,)), (-8, 1))

    def test_gain_and_bests_by_their_words(self):
        for rng, bids in random_lists(10, 200, bottoms=(1, 2, 3)):
            prices = some_prices(rng, bids.kinds)
            self.assertEqual(fraction(gain(bids, pairs(prices))), gain_by(bids, prices))
            single = [0] * bids.kinds
            plain = True
            for weight, numbers in bids.rows:
                bests = best_by(numbers, prices)
                self.assertEqual(best(numbers, pairs(prices)), bests)
                plain = plain and len(bests) == 1
                if bests[0] >= 0:
                    single[bests[0]] += weight
            self.assertEqual(taken(bids, pairs(prices)), tuple(single) if plain else None)

    def test_best(self):
        self.assertEqual(best((3, 2), (1, 1)), (0,))
        self.assertEqual(best((3, 2), (1, 0)), (0, 1))
        self.assertEqual(best((3, 2), (3, 3)), (-1, 0))
        self.assertEqual(best((3, 2), (3, 2)), (-1, 0, 1))
        self.assertEqual(best((3, 2), (4, 4)), (-1,))
        self.assertEqual(best([(3, 1), [0, 5]], [(6, 2), 0]), (-1, 0))
        self.assertEqual(best((0, 3, 0), (0, 3, 0)), (-1, 1))
        self.assertEqual(best((0, 0), (0, 0)), (-1,))
        self.assertEqual(best((5,), (0,)), (0,))
        self.assertEqual(best((2, 2, 2), (1, 1, 1)), (0, 1, 2))

    def test_taken(self):
        bids = Bids(2, [(2, (3, 0)), (1, (0, 1)), (-1, (2, 2))])
        self.assertEqual(taken(bids, (1, (1, 2))), (2, 0))
        self.assertEqual(taken(bids, ((1, 2), (3, 4))), (1, 1))
        self.assertIsNone(taken(bids, (1, 1)))
        self.assertIsNone(taken(bids, (3, 5)))
        self.assertEqual(taken(bids, (9, 9)), (0, 0))
        self.assertEqual(taken(Bids(3, []), (0, 0, 0)), (0, 0, 0))

    def test_wrong_prices(self):
        bids = Bids(2, [(1, (1, 1))])
        for prices in WRONG_PRICES:
            calls = [lambda: gain(bids, prices), lambda: best((1, 1), prices), lambda: taken(bids, prices),
                     lambda: slope(bids, prices, None), lambda: most_of(bids, prices, None),
                     lambda: least_of(bids, prices, None), lambda: bends(bids, prices, None),
                     lambda: bends(bids, (1, 1), prices), lambda: convex_at(bids, prices, None, None),
                     lambda: convex_at(bids, (1, 1), prices, None), lambda: convex_at(bids, (1, 1), (2, 2), prices)]
            for call in calls:
                with self.assertRaises(BadRow, msg=prices) as caught:
                    call()
                self.assertIs(caught.exception.row, prices)

    def test_prices_for_other_kinds(self):
        for kinds in [1, 2, 3]:
            for many in [0, 1, 2, 3, 4]:
                if many != kinds:
                    with self.assertRaises(BadRow):
                        gain(Bids(kinds, []), (1,) * many)
                    with self.assertRaises(BadRow):
                        best((1,) * kinds, (1,) * many)


class Slopes(unittest.TestCase):
    def test_slope_is_the_gain_a_small_step_away(self):
        for rng, bids in random_lists(12, 300, bottoms=(1, 2)):
            prices = some_prices(rng, bids.kinds)
            way = [rng.randint(-3, 3) if price > 0 else rng.randint(0, 3) for price in prices]
            step = Fraction(1, 1000)
            beside = [price + step * move for price, move in zip(prices, way)]
            wanted = (gain_by(bids, beside) - gain_by(bids, prices)) / step
            self.assertEqual(slope(bids, pairs(prices), way), wanted)
            self.assertEqual(slope(bids, list(pairs(prices)), tuple(way)), wanted)

    def test_great_ways(self):
        bids = Bids(2, [(3, (5, 5)), (-1, (2, 0))])
        self.assertEqual(slope(bids, (1, 1), (10 ** 30, -10 ** 30)), 3 * 10 ** 30 + 10 ** 30)
        self.assertEqual(slope(bids, (5, 5), (10 ** 30, 10 ** 30)), 0)
        self.assertEqual(slope(bids, (0, 0), (0, 0)), 0)

    def test_wrong_ways(self):
        bids = Bids(2, [(1, (1, 1))])
        for way in [None, 5, "ab", (), (1,), (1, 2, 3), (1, True), (1, (1, 1)), (1, 1.0), (1, None), {0: 1, 1: 2}]:
            with self.assertRaises(BadRow, msg=way) as caught:
                slope(bids, (1, 1), way)
            self.assertIs(caught.exception.row, way)

    def test_ways_below_zero(self):
        bids = Bids(2, [(1, (1, 1))])
        for prices, way in [((0, 1), (-1, 0)), ((1, 0), (5, -1)), ((0, 0), [0, -9]), (((0, 7), 1), (-1, 1))]:
            with self.assertRaises(BadRow) as caught:
                slope(bids, prices, way)
            self.assertIs(caught.exception.row, way)
        self.assertEqual(slope(bids, ((1, 1000), 1), (-9, 0)), 9)


class Sets(unittest.TestCase):
    def test_units_of_sets(self):
        for rng, bids in random_lists(13, 200, bottoms=(1, 2)):
            prices = some_prices(rng, bids.kinds)
            bests = [(weight, best_by(numbers, prices)) for weight, numbers in bids.rows]
            for many in range(bids.kinds + 1):
                for kinds in itertools.combinations(range(bids.kinds), many):
                    most = sum(weight for weight, row in bests if set(row) & set(kinds))
                    least = sum(weight for weight, row in bests if set(row) <= set(kinds))
                    self.assertEqual(most_of(bids, pairs(prices), kinds), most)
                    self.assertEqual(least_of(bids, pairs(prices), list(kinds)), least)
                    up = [1 if k in kinds else 0 for k in range(bids.kinds)]
                    self.assertEqual(slope(bids, pairs(prices), up), -least)
                    if all(prices[k] > 0 for k in kinds):
                        self.assertEqual(slope(bids, pairs(prices), [-step for step in up]), most)

    def test_the_empty_set(self):
        bids = Bids(2, [(1, (1, 1)), (4, (2, 0))])
        self.assertEqual(most_of(bids, (1, 1), ()), 0)
        self.assertEqual(least_of(bids, (9, 9), []), 0)

    def test_nothing_is_in_no_set(self):
        bids = Bids(2, [(3, (2, 2))])
        self.assertEqual(most_of(bids, (2, 2), (0, 1)), 3)
        self.assertEqual(least_of(bids, (2, 2), (0, 1)), 0)
        self.assertEqual(least_of(bids, (1, 1), (0, 1)), 3)
        self.assertEqual(least_of(bids, (1, 1), (0,)), 0)
        self.assertEqual(most_of(bids, (1, 1), (0,)), 3)

    def test_what_is_no_set(self):
        bids = Bids(2, [(1, (1, 1))])
        for kinds in [None, 0, "0", (1, 0), (0, 0), (2,), (-1,), (0, 2), (True,), (0, 1.0), ((0,),), (None,), {0: 1},
                      {0}, (0, 1, 2), [1, 1]]:
            for ask in [most_of, least_of]:
                with self.assertRaises(BadRow, msg=kinds) as caught:
                    ask(bids, (1, 1), kinds)
                self.assertIs(caught.exception.row, kinds)


class Lines(unittest.TestCase):
    def along(self, bids, low, high, part):
        return gain_by(bids, [a + part * (b - a) for a, b in zip(low, high)])

    def test_bends_tell_the_gain_on_the_whole_line(self):
        for rng, bids in random_lists(14, 250, bottoms=(1, 2)):
            low, high = some_prices(rng, bids.kinds), some_prices(rng, bids.kinds)
            told = bends(bids, pairs(low), list(pairs(high)))
            places = [fraction(place) for place, _ in told]
            self.assertEqual(places, sorted(set(places)))
            self.assertTrue(all(0 < place < 1 for place in places))
            self.assertTrue(all(change[0] != 0 for _, change in told))
            first = Fraction(1, 10 ** 6)
            start = (self.along(bids, low, high, first) - self.along(bids, low, high, 0)) / first
            for part in [Fraction(k, 37) for k in range(38)] + places:
                wanted = self.along(bids, low, high, 0) + part * start
                for place, change in told:
                    wanted += fraction(change) * max(Fraction(0), part - fraction(place))
                self.assertEqual(self.along(bids, low, high, part), wanted)

    def test_bends_are_told_as_rows(self):
        bids = Bids(1, [(2, (3,)), (-1, (1,))])
        self.assertEqual(bends(bids, (0,), (4,)), (((1, 4), (-4, 1)), ((3, 4), (8, 1))))
        self.assertEqual(bends(bids, (4,), (0,)), (((1, 4), (8, 1)), ((3, 4), (-4, 1))))
        self.assertEqual(bends(bids, (1,), (3,)), ())
        self.assertEqual(bends(bids, [0], [[3, 2]]), (((2, 3), (-3, 2)),))
        self.assertEqual(bends(Bids(2, []), (0, 0), (4, 4)), ())

    def test_no_bends_between_like_prices(self):
        self.assertEqual(bends(Bids(2, [(2, (3, 3))]), (3, 3), ((6, 2), 3)), ())

    def test_changes_that_come_to_nothing_are_not_told(self):
        bids = Bids(2, [(1, (2, 0)), (-1, (0, 2))])
        self.assertEqual(bends(bids, (0, 0), (4, 4)), ())
        self.assertEqual(bends(bids, (0, 1), (4, 5)), (((1, 4), (-4, 1)), ((1, 2), (4, 1))))

    def test_three_pieces_at_one_place(self):
        bids = Bids(2, [(1, (2, 2))])
        self.assertEqual(bends(bids, (0, 1), (4, 3)), (((1, 2), (4, 1)),))
        self.assertEqual(bends(bids, (1, 3), (3, 1)), (((1, 2), (4, 1)),))

    def test_convex_at(self):
        count = {True: 0, False: 0}
        for rng, bids in random_lists(15, 300, below=0.5):
            low, high = some_prices(rng, bids.kinds), some_prices(rng, bids.kinds)
            part = Fraction(rng.randint(1, 6), 7)
            middle = [a + part * (b - a) for a, b in zip(low, high)]
            straight = (1 - part) * gain_by(bids, low) + part * gain_by(bids, high)
            wanted = gain_by(bids, middle) <= straight
            count[wanted] += 1
            self.assertIs(convex_at(bids, pairs(low), pairs(middle), pairs(high)), wanted)
        self.assertTrue(min(count.values()) > 10)

    def test_convex_at_like_prices(self):
        self.assertIs(convex_at(BARRED, (1, 1), ((2, 2), 1), [1, [3, 3]]), True)
        self.assertIs(convex_at(BARRED, ((1, 2), 2), (1, 2), ((3, 2), 2)), False)

    def test_middle_must_lie_between(self):
        for low, middle, high in [((0, 0), (0, 0), (1, 1)), ((0, 0), (1, 1), (1, 1)), ((0, 0), (2, 2), (1, 1)),
                                  ((1, 1), (0, 0), (2, 2)), ((0, 0), (1, 2), (3, 3)), ((1, 1), (1, 2), (1, 1)),
                                  ((1, 0), (2, 1), (1, 2)), ((2, 2), (2, 0), (2, 1)), ((0, 1), ((1, 2), 2), (1, 1))]:
            with self.assertRaises(Unlike) as caught:
                convex_at(BARRED, low, middle, high)
            self.assertEqual(caught.exception.what, "line")
        for low, middle, high in [((0, 2), (0, 1), (0, 0)), ((0, 0), ((1, 9), (2, 9)), (1, 2)), ((5,) * 2,) * 3]:
            self.assertIn(convex_at(Bids(2, []), low, middle, high), [True])

    def test_a_list_is_a_buyer_if_all_bends_go_up(self):
        rng = random.Random(16)
        for _ in range(60):
            bids = random_bids(rng, rng.choice([1, 2, 3]), 4, 4, below=0)
            for _ in range(10):
                low, high = some_prices(rng, bids.kinds), some_prices(rng, bids.kinds)
                told = bends(bids, pairs(low), pairs(high))
                self.assertTrue(all(change[0] > 0 for _, change in told))


class Forms(unittest.TestCase):
    def test_ratios_in_any_terms(self):
        bids = Bids(2, [(2, ((5, 3), 1)), (-1, (1, 1))])
        for prices in [(1, (1, 2)), [(3, 3), [2, 4]], ([5, 5], (50, 100))]:
            self.assertEqual(gain(bids, prices), pair(Fraction(5, 6)))
            self.assertEqual(taken(bids, prices), (2, -1))
            self.assertEqual(slope(bids, prices, (-1, -1)), 1)
            self.assertEqual(bends(bids, prices, ((9, 3), [3, 6])), (((1, 12), (4, 1)),))
            self.assertIs(convex_at(bids, prices, (2, (1, 2)), (3, (1, 2))), True)


if __name__ == "__main__":
    unittest.main()
