"""Points 40 to 45: lists held against one another, for all prices."""

import itertools
import random
import unittest
from fractions import Fraction

from allbids.bids import Bids
from allbids.errors import NoBuyer, Unlike
from allbids.gains import gain, taken
from allbids.likeness import Gap, Less, alike, greatest_gap, never_below, takes_no_less, worths_below
from allbids.worths import worth

from oracles import (BARRED, MENDED, box_by, fraction, fractions, gain_by, pair, pairs, random_bids, random_buyer,
                     random_lists, top_of, whole_gain, worths_of)

EMPTY = Bids(2, [])


def random_pairs(seed, many, most=4, kinds=(1, 2, 2, 3)):
    """Two lists of as many kinds; the second one is often the first one with few bids more."""
    rng = random.Random(seed)
    for _ in range(many):
        count = rng.choice(kinds)
        one = random_bids(rng, count, rng.randint(0, most), rng.choice([2, 3, 5]))
        other = random_bids(rng, count, rng.randint(0, most), 3)
        if rng.random() < 0.6:
            other = one + random_bids(rng, count, 1, 4, below=0.5)
        yield rng, one, other


def least_by(one, other):
    """The least difference of gains: as all numbers are integers, such prices are enough."""
    places = itertools.product(range(top_of(one, other) + 1), repeat=one.kinds)
    return min(whole_gain(one, prices) - whole_gain(other, prices) for prices in places)


class Alike(unittest.TestCase):
    def check_unlike(self, one, other):
        prices = alike(one, other)
        self.assertEqual(prices, pairs(fractions(prices)))
        self.assertTrue(min(fractions(prices)) >= 0)
        self.assertNotEqual(gain(one, prices), gain(other, prices))

    def test_random_lists(self):
        for rng, one, other in random_pairs(40, 200):
            if one == other:
                self.assertIsNone(alike(one, other))
            else:
                self.check_unlike(one, other)
            self.assertIsNone(alike(one, Bids(one.kinds, list(reversed(one.rows)))))

    def test_equal_lists_told_otherwise(self):
        one = Bids(2, [(2, (3, (1, 2))), (-1, (0, 4))])
        for rows in [[(-1, (0, 4)), (1, ([6, 2], (2, 4))), (1, (3, (1, 2)))],
                     [(-3, (0, 4)), (2, (0, 4)), (2, (3, (1, 2))), (5, (0, 0)), (7, (1, 1)), (-7, (1, 1))]]:
            self.assertIsNone(alike(one, Bids(2, rows)))
        self.assertIsNone(alike(EMPTY, Bids(2, [(3, (0, 0))])))

    def test_a_little_otherwise(self):
        rng = random.Random(41)
        for kinds in [1, 2, 3]:
            for _ in range(15):
                one = random_bids(rng, kinds, 6, 10 ** 6, bottoms=(1, 8, 1000), below=0.3)
                weight, numbers = one.rows[rng.randrange(len(one.rows))]
                self.check_unlike(one, one + Bids(kinds, [(rng.choice([1, -1]), numbers)]))
                near = list(numbers)
                kind = rng.randrange(kinds)
                near[kind] = pair(fraction(near[kind]) + Fraction(1, 1000))
                self.check_unlike(one, one + Bids(kinds, [(-weight, numbers), (weight, near)]))

    def test_lists_that_differ_in_small_places_alone(self):
        """A sum of bids with signs whose gain is 0 but near one place."""
        for kinds in [1, 2, 3]:
            for step in [1, 2, 500]:
                rows = []
                for signs in itertools.product([0, 1], repeat=kinds):
                    rows.append(((-1) ** sum(signs), [(7000 + sign, 1000) for sign in signs]))
                one = random_bids(random.Random(step), kinds, 4, 9)
                self.check_unlike(one, one + step * Bids(kinds, rows))

    def test_gains_that_meet_beside_a_low_bid(self):
        """The gain is 0 at 2 - 1/2 and at 2 + 1/2, on both sides of the lowest bid."""
        self.check_unlike(Bids(1, [(8, (2,)), (-5, (3,)), (1, (5,))]), Bids(1, []))
        self.check_unlike(Bids(2, [(8, (2, 0)), (1, (5, 0))]), Bids(2, [(5, (3, 0))]))

    def test_against_nothing(self):
        for rng, bids in random_lists(42, 80, bottoms=(1, 2, 1000)):
            if bids.rows:
                self.check_unlike(bids, Bids(bids.kinds, []))
                self.check_unlike(Bids(bids.kinds, []), bids)


class NeverBelow(unittest.TestCase):
    def check_below(self, one, other):
        prices = never_below(one, other)
        self.assertEqual(prices, pairs(fractions(prices)))
        self.assertEqual(len(prices), one.kinds)
        self.assertTrue(min(fractions(prices)) >= 0)
        self.assertTrue(gain_by(one, fractions(prices)) < gain_by(other, fractions(prices)))

    def test_random_lists(self):
        count = {True: 0, False: 0}
        for rng, one, other in random_pairs(43, 250):
            wanted = least_by(one, other) >= 0
            count[wanted] += 1
            if wanted:
                self.assertIsNone(never_below(one, other))
            else:
                self.check_below(one, other)
        self.assertTrue(min(count.values()) > 40)

    def test_below_by_a_little_in_one_small_place(self):
        """The gain of the sum of these bids is a peak of 1/1000 and 0 elsewhere; a list less it is below there."""
        for kinds in [1, 2, 3]:
            for order in itertools.permutations(range(kinds)):
                corner = [2 * k + 3 for k in order]
                one = Bids(kinds, [(1, [9, 8, 7][:kinds]), (2, [number + 1 for number in corner])])
                for spot in [corner, [0] * kinds]:
                    rows = []
                    for signs in itertools.product([0, 1], repeat=kinds):
                        numbers = [pair(number + Fraction(sign, 1000)) for number, sign in zip(spot, signs)]
                        rows.append(((-1) ** (sum(signs) + 1 + kinds), numbers))
                    peak = Bids(kinds, rows)
                    for other in [one + peak, one + -peak]:
                        if least_fine(one, other, spot) < 0:
                            self.check_below(one, other)
                        else:
                            self.assertIsNone(never_below(one, other))

    def test_at_a_tie_of_kinds_far_from_all_bids(self):
        """Below only near p_0 = p_1 = p_2 - 1, between the numbers of the bids."""
        one = Bids(3, [(1, (9, 9, 0)), (1, (0, 0, 10)), (1, (2, 2, 3))])
        other = Bids(3, [(1, (9, 9, 10)), (1, (2, 2, 0)), (1, (0, 0, 3))])
        self.assertIsNone(never_below(one, other))
        self.check_below(other, one)
        apart = Bids(2, [(1, (100, 0)), (1, (0, 100)), (-1, (100, 100))])
        self.assertIsNone(never_below(apart, EMPTY))
        worse = apart + Bids(2, [(-1, (41, 40)), (1, (41, 0)), (-1, ((40999, 1000), 0))])
        self.assertTrue(least_scaled(worse, apart) < 0)
        self.check_below(worse, apart)

    def test_at_prices_of_zero(self):
        one, other = Bids(1, [(3, (2,))]), Bids(1, [(2, (3,))])
        self.assertEqual(never_below(one, other + Bids(1, [(-2, (3,)), (3, (2,)), (0, (9,))])), None)
        low = Bids(1, [(1, (5,)), (-1, ((1, 1000),))])
        self.assertEqual(never_below(low, Bids(1, [(1, (5,))])), ((0, 1),))
        flat = Bids(2, [(1, (5, 0)), (1, (0, 5)), (-1, ((1, 1000), (1, 1000)))])
        self.assertEqual(never_below(flat, Bids(2, [(1, (5, 0)), (1, (0, 5))])), ((0, 1), (0, 1)))

    def test_equal_lists_and_none(self):
        for rng, bids in random_lists(44, 60):
            self.assertIsNone(never_below(bids, bids))
            self.assertIsNone(never_below(bids + bids, bids + bids))
        self.assertIsNone(never_below(EMPTY, EMPTY))
        self.assertIsNone(never_below(MENDED, EMPTY))

    def test_twelve_bids(self):
        rng = random.Random(45)
        for kinds in [2, 3, 3]:
            one = random_bids(rng, kinds, 6, 10 ** 6, bottoms=(1000,), below=0)
            rows = []
            for weight, numbers in one.rows:
                less = [max(Fraction(0), b - Fraction(rng.randint(0, 2), 1000)) for b in fractions(numbers)]
                rows.append((weight, pairs(less)))
            other = Bids(kinds, rows)
            self.assertIsNone(never_below(one, other))
            self.check_below(other, one)
            mixed = random_bids(rng, kinds, 6, 10 ** 6, bottoms=(1000,), below=0.5)
            if never_below(one, mixed) is not None:
                self.check_below(one, mixed)


def least_scaled(one, other, bottom=1000):
    """The least difference of gains at all prices with some number of one list and step of another one."""
    numbers = {b for bids in (one, other) for _, row in bids.rows for b in fractions(row)} | {Fraction(0)}
    steps = {a - b for a in numbers for b in numbers}
    places = sorted({a + d for a in numbers for d in steps if a + d >= 0})
    rest = one + -other
    return min(gain_by(rest, prices) for prices in itertools.product(places, repeat=one.kinds))


def least_fine(one, other, spot):
    """The least difference of gains on a fine grid around a spot."""
    rest = one + -other
    lines = [[max(Fraction(0), number + Fraction(step, 2000)) for step in range(-2, 5)] for number in spot]
    return min(gain_by(rest, prices) for prices in itertools.product(*lines))


class TakesNoLess(unittest.TestCase):
    def check_less(self, one, other):
        found = takes_no_less(one, other)
        self.assertIsInstance(found, Less)
        self.assertEqual(found.prices, pairs(fractions(found.prices)))
        self.assertTrue(min(fractions(found.prices)) > 0)
        units, others = taken(one, found.prices), taken(other, found.prices)
        self.assertIsNotNone(units)
        self.assertIsNotNone(others)
        self.assertTrue(units[found.kind] < others[found.kind])

    def less_by(self, one, other):
        """Whether some kind is taken less at prices in one of the pieces between integers."""
        kinds = one.kinds
        corners = list(itertools.product(range(top_of(one, other) + 1), repeat=kinds))
        for steps in itertools.permutations([Fraction(k, 5) for k in range(1, kinds + 1)]):
            for corner in corners:
                prices = pairs([price + step for price, step in zip(corner, steps)])
                if any(a < b for a, b in zip(taken(one, prices), taken(other, prices))):
                    return True
        return False

    def test_random_lists(self):
        count = {True: 0, False: 0}
        for rng, one, other in random_pairs(46, 120, most=3):
            one, other = rng.choice([(one, other), (other, one), (one + other, other)])
            wanted = self.less_by(one, other)
            count[wanted] += 1
            if wanted:
                self.check_less(one, other)
            else:
                self.assertIsNone(takes_no_less(one, other))
        self.assertTrue(min(count.values()) > 15)

    def test_further_bids(self):
        one = Bids(2, [(2, (4, 3)), (1, (2, 0))])
        more = one + Bids(2, [(1, (9, 0)), (2, (1, 7))])
        self.assertIsNone(takes_no_less(more, one))
        self.assertIsNone(takes_no_less(one, one))
        self.assertIsNone(takes_no_less(EMPTY, EMPTY))
        self.check_less(one, more)

    def test_kinds_no_longer_wanted(self):
        self.check_less(Bids(2, [(1, (4, 0))]), Bids(2, [(1, (4, 3))]))
        self.assertEqual(takes_no_less(Bids(2, [(1, (4, 0))]), Bids(2, [(1, (4, 3))])).kind, 1)
        # With a further kind wanted, a unit of the old one may be left for it.
        self.check_less(Bids(2, [(1, (4, 3))]), Bids(2, [(1, (4, 0))]))
        self.assertIsNone(takes_no_less(Bids(2, [(1, (4, 0)), (1, (0, 3))]), Bids(2, [(1, (4, 3))])))

    def test_in_one_small_place(self):
        one = Bids(1, [(1, (5,))])
        self.check_less(Bids(1, [(1, ((4999, 1000),))]), one)
        self.assertIsNone(takes_no_less(one, Bids(1, [(1, ((4999, 1000),))])))
        near = Bids(3, [(1, (5, 6, 7)), (1, (5, 6, (7001, 1000))), (-1, (5, (6001, 1000), (7001, 1000)))])
        self.check_less(near, Bids(3, []))

    def test_clear_for_bids_that_both_have(self):
        """At the told prices bids that cancel out have one best, too."""
        shared = Bids(2, [(1, (k, k + d)) for k in range(1, 5) for d in (0, 1)])
        for one, other in [(Bids(2, [(1, (4, 2))]), Bids(2, [(1, (4, 4))])), (EMPTY, Bids(2, [(1, (3, 3))]))]:
            self.check_less(one + shared, other + shared)

    def test_eight_bids(self):
        rng = random.Random(47)
        for kinds in [2, 3, 3]:
            for bottoms in [(1,), (1000,)]:
                one = random_bids(rng, kinds, 4, 10 ** 6, bottoms=bottoms, below=0)
                other = random_bids(rng, kinds, 4, 10 ** 6, bottoms=bottoms, below=0)
                self.assertIsNone(takes_no_less(one + other, one))
                self.assertIsNone(takes_no_less(one + other, other))
                self.check_less(one, one + other)
                self.check_less(one, other)

    def test_less_keeps_what_it_is_given(self):
        made = Less([[1, 2], (3, 1)], 1)
        self.assertEqual((made.prices, made.kind), (((1, 2), (3, 1)), 1))


class GreatestGap(unittest.TestCase):
    def check_gap(self, one, other):
        found = greatest_gap(one, other)
        self.assertIsInstance(found, Gap)
        self.assertEqual(found.gap, pair(fraction(found.gap)))
        self.assertEqual(found.prices, pairs(fractions(found.prices)))
        self.assertTrue(min(fractions(found.prices)) >= 0)
        there = gain_by(one, fractions(found.prices)) - gain_by(other, fractions(found.prices))
        self.assertEqual(fraction(found.gap), there)
        return fraction(found.gap)

    def test_random_lists(self):
        nothing = 0
        for rng, one, other in random_pairs(48, 200):
            gap = self.check_gap(one, other)
            self.assertEqual(gap, -least_by(other, one))
            self.assertTrue(gap >= 0)
            self.assertIs(never_below(other, one) is None, gap == 0)
            nothing += gap == 0
        self.assertTrue(nothing > 20)

    def test_where_ties_of_kinds_meet_other_planes(self):
        """Numbers so sparse that the gap is often at prices that are no numbers of any bid."""
        rng = random.Random(53)
        apart = 0
        for kinds, top, many in [(2, 30, 40), (3, 11, 30)]:
            for _ in range(many):
                one, other = [random_bids(rng, kinds, rng.randint(1, 3), top, below=0.3) for _ in range(2)]
                self.assertEqual(self.check_gap(one, other), -least_by(other, one))
                self.assertEqual(never_below(one, other) is None, least_by(one, other) >= 0)
                numbers = [numbers[k] for bids in (one, other) for _, numbers in bids.rows for k in range(kinds)]
                apart += any(price[0] and price not in numbers for price in greatest_gap(one, other).prices)
        self.assertTrue(apart > 5, apart)

    def test_never_above(self):
        self.assertEqual(greatest_gap(EMPTY, MENDED).gap, (0, 1))
        self.assertEqual(greatest_gap(MENDED, MENDED).gap, (0, 1))
        self.assertEqual(greatest_gap(EMPTY, EMPTY).gap, (0, 1))
        self.check_gap(EMPTY, MENDED)

    def test_plain_gaps(self):
        found = greatest_gap(Bids(1, [(2, (5,))]), Bids(1, [(3, (4,))]))
        self.assertEqual((found.gap, found.prices), ((2, 1), ((4, 1),)))
        found = greatest_gap(Bids(2, [(1, ((1, 2), (3, 4)))]), EMPTY)
        self.assertEqual(found.gap, (3, 4))
        self.assertEqual(found.prices[1], (0, 1))

    def test_twelve_bids(self):
        rng = random.Random(49)
        one = random_bids(rng, 3, 6, 10 ** 6, bottoms=(1000,), below=0.3)
        other = random_bids(rng, 3, 6, 10 ** 6, bottoms=(1000,), below=0.3)
        gap = self.check_gap(one, other)
        for _ in range(300):
            prices = [Fraction(rng.randint(0, 10 ** 6), 1000) for _ in range(3)]
            self.assertTrue(gain_by(one, prices) - gain_by(other, prices) <= gap)

    def test_gap_keeps_what_it_is_given(self):
        made = Gap([4, 3], [[1, 2]])
        self.assertEqual((made.gap, made.prices), ((4, 3), ((1, 2),)))


class WorthsBelow(unittest.TestCase):
    def check_bundle(self, one, other):
        bundle = worths_below(one, other)
        self.assertIsInstance(bundle, tuple)
        self.assertTrue(fraction(worth(one, bundle)) < fraction(worth(other, bundle)))

    def test_just_where_never_below_is(self):
        rng = random.Random(50)
        count = {True: 0, False: 0}
        for _ in range(120):
            kinds = rng.choice([1, 2, 2, 3])
            one, other = random_buyer(rng, kinds), random_buyer(rng, kinds)
            if rng.random() < 0.5:
                one = one + other
            wanted = never_below(one, other) is None
            count[wanted] += 1
            if wanted:
                self.assertIsNone(worths_below(one, other))
                caps = [3] * kinds
                worths, others = worths_of(one, caps), worths_of(other, caps)
                self.assertTrue(all(worths[bundle] >= others[bundle] for bundle in box_by(caps)))
            else:
                self.check_bundle(one, other)
        self.assertTrue(min(count.values()) > 20)

    def test_a_bundle_with_a_lower_worth(self):
        self.assertEqual(worths_below(Bids(1, [(1, (5,))]), Bids(1, [(2, (3,))])), (2,))
        self.assertIsNone(worths_below(MENDED, Bids(2, [(1, (3, 4))])))
        self.assertEqual(worths_below(MENDED, Bids(2, [(1, (3, 5))])), (0, 1))
        self.assertEqual(worths_below(Bids(2, [(1, (3, 4))]), MENDED), (1, 1))

    def test_great_buyers(self):
        rng = random.Random(51)
        for kinds in [2, 3]:
            one = random_bids(rng, kinds, 6, 10 ** 6, bottoms=(1000,), below=0)
            other = random_bids(rng, kinds, 6, 10 ** 6, bottoms=(1000,), below=0)
            self.check_bundle(one, other)
            self.check_bundle(other, one + other)
            self.assertIsNone(worths_below(one + other, other))

    def test_errors_in_their_order(self):
        with self.assertRaises(Unlike) as caught:
            worths_below(BARRED, Bids(1, [(-1, (1,))]))
        self.assertEqual(caught.exception.what, "kinds")
        for one, other in [(BARRED, MENDED), (MENDED, BARRED), (BARRED, BARRED)]:
            with self.assertRaises(NoBuyer):
                worths_below(one, other)


class UnlikeKinds(unittest.TestCase):
    def test_unlike_kinds(self):
        for ask in [alike, never_below, takes_no_less, greatest_gap, worths_below]:
            for one, other in [(1, 2), (3, 1), (2, 3)]:
                with self.assertRaises(Unlike) as caught:
                    ask(Bids(one, []), Bids(other, []))
                self.assertEqual(caught.exception.what, "kinds")

    def test_equal_calls_tell_the_same(self):
        for ask in [alike, never_below]:
            self.assertEqual(ask(BARRED, MENDED), ask(BARRED, MENDED))


if __name__ == "__main__":
    unittest.main()
