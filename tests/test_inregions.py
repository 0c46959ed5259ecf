"""Points 46 to 48: likeness and demand in a set of prices."""

import itertools
import random
import unittest
from fractions import Fraction

from allbids.bids import Bids
from allbids.demand import demand_map
from allbids.errors import BadRow, NoBuyer, TooMany, Unlike
from allbids.gains import gain
from allbids.inregions import alike_in, never_below_in, taken_in, units_in
from allbids.likeness import alike, never_below
from allbids.regions import Region
from allbids.walls import weight_at

from oracles import (BARRED, MENDED, cost, fraction, fractions, gain_by, height, pair, pairs, planes_by, random_bids,
                     random_buyer, top_of, worths_of)

EVERYWHERE = {kinds: Region((0,) * kinds, (None,) * kinds, ()) for kinds in (1, 2, 3)}
WRONG_KINDS = [None, 5, "0", (2,), (-1,), (1, 0), (0, 0), (True,), (0, True), (0.0,), (None,), ((0,),), {0: 1},
               (0, 1, 2)]


def random_region(rng, kinds, bottom, top):
    """A region whose bounds have this bottom."""
    while True:
        lows = [(rng.randint(0, top * bottom // 2), bottom) for _ in range(kinds)]
        highs = [rng.choice([None, (rng.randint(0, top * bottom), bottom)]) for _ in range(kinds)]
        gaps = []
        for _ in range(rng.choice([0, 0, 1, 2]) if kinds > 1 else 0):
            i, j = rng.sample(range(kinds), 2)
            gaps.append((i, j, (rng.randint(-bottom, 2 * bottom), bottom)))
        try:
            return Region(lows, highs, gaps)
        except Unlike:
            continue


def places_in(region, bids, bottom):
    """All prices of a region with this bottom, but not much above all numbers of the bids and the region."""
    tops = [fraction(c) for c in region.lows] + [fraction(c) for c in region.highs if c is not None]
    tops += [abs(fraction(c)) for _, _, c in region.gaps]
    far = int((top_of(bids) + sum(tops, 1)) * bottom) + 1
    far = min(far, 14 * bottom)
    steps = [Fraction(k, bottom) for k in range(far)]
    for prices in itertools.product(steps, repeat=region.kinds):
        if region.has(pairs(prices)):
            yield prices


def pairs_and_regions(seed, many):
    """Two lists of integers and a region whose bounds have a bottom that is told, too."""
    rng = random.Random(seed)
    for _ in range(many):
        kinds = rng.choice([1, 2, 2, 3])
        bottom = 1 if kinds == 3 else rng.choice([1, 2, 3])
        top = rng.choice([2, 3])
        one = random_bids(rng, kinds, rng.randint(0, 3), top)
        other = random_bids(rng, kinds, rng.randint(0, 3), top)
        if rng.random() < 0.6:
            other = one + random_bids(rng, kinds, 1, top, below=0.5)
        yield rng, one, other, random_region(rng, kinds, bottom, top), bottom


class Alike(unittest.TestCase):
    def check_unlike(self, one, other, region):
        prices = alike_in(one, other, region)
        self.assertEqual(prices, pairs(fractions(prices)))
        self.assertIs(region.has(prices), True)
        self.assertNotEqual(gain(one, prices), gain(other, prices))

    def test_random_lists(self):
        count = {True: 0, False: 0}
        for rng, one, other, region, bottom in pairs_and_regions(46, 150):
            rest = one + -other
            wanted = all(gain_by(rest, prices) == 0 for prices in places_in(region, rest, bottom))
            count[wanted] += 1
            if wanted:
                self.assertIsNone(alike_in(one, other, region))
            else:
                self.check_unlike(one, other, region)
            self.assertIs(alike_in(one, other, EVERYWHERE[one.kinds]) is None, one == other)
        self.assertTrue(min(count.values()) > 30)

    def test_alike_in_a_region_and_not_beyond(self):
        one, other = Bids(1, [(2, (3,)), (1, (7,))]), Bids(1, [(1, (3,)), (1, (7,)), (1, ((5, 2),))])
        self.assertIsNone(alike_in(one, other, Region((3,), (None,), ())))
        self.assertIsNone(alike_in(one, other, Region((3,), (3,), ())))
        self.check_unlike(one, other, Region(((2999, 1000),), (None,), ()))
        self.check_unlike(one, other, Region((0,), (1,), ()))
        one, other = Bids(2, [(1, (5, 4))]), Bids(2, [(1, (5, 0))])
        self.assertIsNone(alike_in(one, other, Region((0, 0), (None, None), ((0, 1, 1),))))
        self.check_unlike(one, other, Region((0, 0), (None, None), ((0, 1, (1001, 1000)),)))
        self.assertIsNone(alike_in(one, other, Region((0, 4), (None, None), ())))
        self.check_unlike(one, other, Region((0, (3999, 1000)), (None, None), ()))

    def test_one_place(self):
        one, other = Bids(2, [(1, (5, 4))]), Bids(2, [(2, (5, 4)), (-1, (5, 5))])
        for prices in [(5, 5), (1, 5), (1, (1, 2)), (1, 1), (1, 0), (2, (1, 3)), (5, (9, 2))]:
            region = Region(prices, prices, ())
            self.assertIs(alike_in(one, other, region) is None, gain(one, prices) == gain(other, prices))
            self.assertIs(never_below_in(other, one, region) is None, fraction(gain(other, prices))
                          >= fraction(gain(one, prices)))
        self.assertEqual(alike_in(one, other, Region((5, (9, 2)), (5, (9, 2)), ())), ((5, 1), (9, 2)))

    def test_regions_that_touch_in_a_corner(self):
        """The gains differ only between p_0 - 1/3 and p_0 on p_1, near 2."""
        one = Bids(2, [(1, (2, 2)), (1, (3, 3))])
        other = one + Bids(2, [(1, (2, (5, 3))), (-1, (2, (4, 3)))])
        for c in [(1, 7), (1, 3), (2, 3), (999, 1000)]:
            region = Region((0, 0), (2, None), ((0, 1, pair(-fraction(c))),))
            if alike_in(one, other, region) is not None:
                self.check_unlike(one, other, region)
            places = [(Fraction(a, 21), Fraction(b, 21)) for a in range(0, 43) for b in range(0, 43)]
            found = any(gain_by(one, p) != gain_by(other, p) for p in places if region.has(pairs(p)))
            self.assertIs(alike_in(one, other, region) is not None, found)

    def test_unbounded_regions(self):
        one, other = Bids(3, [(1, (4, 5, 6))]), Bids(3, [(1, (4, 5, 0))])
        self.assertIsNone(alike_in(one, other, Region((0, 0, 6), (None,) * 3, ())))
        self.check_unlike(one, other, Region((0, 0, 0), (None,) * 3, ((2, 0, -1), (2, 1, -1))))
        self.assertIsNone(alike_in(one, other, Region((0, 0, 0), (None,) * 3, ((0, 2, -2),))))
        self.check_unlike(one, other, Region((0, 0, 0), (None,) * 3, ((0, 2, (-1999, 1000)),)))


class NeverBelow(unittest.TestCase):
    def check_below(self, one, other, region):
        prices = never_below_in(one, other, region)
        self.assertEqual(prices, pairs(fractions(prices)))
        self.assertIs(region.has(prices), True)
        self.assertTrue(gain_by(one, fractions(prices)) < gain_by(other, fractions(prices)))

    def test_random_lists(self):
        count = {True: 0, False: 0}
        for rng, one, other, region, bottom in pairs_and_regions(47, 200):
            rest = one + -other
            wanted = all(gain_by(rest, prices) >= 0 for prices in places_in(region, rest, bottom))
            count[wanted] += 1
            if wanted:
                self.assertIsNone(never_below_in(one, other, region))
            else:
                self.check_below(one, other, region)
            whole = never_below_in(one, other, EVERYWHERE[one.kinds])
            self.assertIs(whole is None, never_below(one, other) is None)
        self.assertTrue(min(count.values()) > 40)

    def test_below_just_beyond_the_region(self):
        one, other = Bids(1, [(2, (5,))]), Bids(1, [(3, (4,))])
        self.assertIsNone(never_below_in(one, other, Region((2,), (None,), ())))
        self.assertIsNone(never_below_in(one, other, Region(((7, 3),), ((9, 2),), ())))
        self.check_below(one, other, Region(((1999, 1000),), (None,), ()))
        self.assertIsNone(never_below_in(other, one, Region((0,), (2,), ())))
        self.check_below(other, one, Region((0,), ((2001, 1000),), ()))
        self.check_below(other, one, Region((0,), ((15, 7),), ()))

    def test_within_gaps(self):
        """The gain of one is below only where p_0 - p_1 is above 1."""
        one, other = Bids(2, [(1, (5, 0))]), Bids(2, [(1, (5, 4))])
        self.assertIsNone(never_below_in(one, other, Region((0, 0), (None, 9), ((0, 1, 1),))))
        self.check_below(one, other, Region((0, 0), (None, 9), ((0, 1, (8, 7)),)))
        self.assertIsNone(never_below_in(one, other, Region(((8, 7), (1, 7)), ((8, 7), (1, 7)), ())))
        self.check_below(one, other, Region(((9, 7), (1, 7)), ((9, 7), (1, 7)), ()))

    def test_sizes(self):
        rng = random.Random(48)
        for kinds, many in [(2, 6), (3, 5)]:
            one = random_bids(rng, kinds, many, 10 ** 6, bottoms=(1000,), below=0.2)
            other = random_bids(rng, kinds, many - 1, 10 ** 6, bottoms=(1000,), below=0.2)
            for _ in range(3):
                spot = [Fraction(rng.randint(0, 10 ** 6), 7000) for _ in range(kinds)]
                room = Fraction(rng.randint(0, 10 ** 6), 3000)
                region = Region(pairs(spot), pairs(low + room for low in spot), [(0, 1, pair(spot[0] - spot[1]))])
                if never_below_in(one, other, region) is not None:
                    self.check_below(one, other, region)
                else:
                    for _ in range(200):
                        prices = [low + room * Fraction(rng.randint(0, 50), 50) for low in spot]
                        if region.has(pairs(prices)):
                            self.assertTrue(gain_by(one, prices) >= gain_by(other, prices))
                self.assertIsNone(alike_in(one, one, region))
                self.assertIsNotNone(alike_in(one, other, region))


class WallsWithin(unittest.TestCase):
    def test_the_fact_of_point_48(self):
        """Lists that are alike in a region with room have the same weights within it."""
        one, other = Bids(2, [(1, (5, 4)), (2, (7, 1))]), Bids(2, [(1, (5, 4)), (1, (7, 1)), (1, (7, 0))])
        region = Region((4, 1), (9, 9), ())
        self.assertIsNone(alike_in(one, other, region))
        self.assertIsNotNone(alike(one, other))
        rng = random.Random(49)
        seen = 0
        for plane in planes_by(one):
            for _ in range(60):
                prices = [Fraction(rng.randint(10, 60), 7), Fraction(rng.randint(10, 60), 7)]
                if plane[0] == "at":
                    prices[plane[1]] = fraction(plane[2])
                else:
                    prices[0] = prices[1] + fraction(plane[3])
                inside = prices[0] > 4 and prices[1] > 1 and max(prices) < 9
                if inside and all(height(p, prices) != 0 for p in planes_by(one + other) if p != plane):
                    seen += 1
                    self.assertEqual(weight_at(one, plane, pairs(prices)), weight_at(other, plane, pairs(prices)))
        self.assertTrue(seen > 30)


class Taken(unittest.TestCase):
    def test_by_the_regions_of_all_taken_bundles(self):
        rng = random.Random(50)
        few = 0
        for _ in range(120):
            kinds = rng.choice([1, 2, 2, 3])
            bids = rng.choice([MENDED, random_buyer(rng, kinds)])
            region = random_region(rng, bids.kinds, rng.choice([1, 2, 3]), 4)
            told = demand_map(bids)
            wanted = tuple(bundle for bundle, prices in told if prices.common(region) is not None)
            self.assertEqual(taken_in(bids, region), wanted)
            few += len(wanted) < len(told)
            for size in range(bids.kinds + 1):
                for part in itertools.combinations(range(bids.kinds), size):
                    units = [sum(bundle[k] for k in part) for bundle in wanted]
                    self.assertEqual(units_in(bids, region, part), (min(units), max(units)))
                    self.assertEqual(units_in(bids, region, list(part)), (min(units), max(units)))
        self.assertTrue(few > 30)

    def test_near_prices_of_the_region(self):
        """A bundle is told exactly if it comes to the gain at some prices of the region and is taken at all."""
        rng = random.Random(51)
        for _ in range(40):
            bids = random_buyer(rng, rng.choice([1, 2, 2, 3]), 3)
            region = random_region(rng, bids.kinds, 1, 3)
            worths = worths_of(bids)
            taken = {bundle for bundle, _ in demand_map(bids)}
            found = set()
            for prices in places_in(region, bids, 1):
                here = gain_by(bids, prices)
                found.update(b for b in taken if worths[b] - cost(b, prices) == here)
            self.assertEqual(taken_in(bids, region), tuple(sorted(found)))

    def test_a_buyer_with_a_weight_below_zero(self):
        self.assertEqual(taken_in(MENDED, EVERYWHERE[2]), ((0, 0), (0, 1), (1, 0), (1, 1)))
        self.assertEqual(taken_in(MENDED, Region((3, 4), (None, None), ())), ((0, 0), (0, 1), (1, 0)))
        self.assertEqual(taken_in(MENDED, Region(((7, 2), 4), (None, None), ())), ((0, 0), (0, 1)))
        self.assertEqual(units_in(MENDED, Region(((7, 2), 4), (None, None), ()), (0,)), (0, 0))
        self.assertEqual(units_in(MENDED, Region((0, 0), (2, 3), ()), (0, 1)), (1, 2))
        self.assertEqual(units_in(MENDED, Region((0, 0), (1, 1), ()), ()), (0, 0))
        self.assertEqual(taken_in(MENDED, Region((0, 0), (0, 0), ())), ((1, 1),))
        self.assertEqual(taken_in(Bids(2, [(1, (0, 3))]), Region((0, 3), (0, 3), ())), ((0, 0), (0, 1)))

    def test_errors_in_their_order(self):
        region = EVERYWHERE[2]
        for ask in [lambda: taken_in(BARRED, region), lambda: units_in(BARRED, region, None)]:
            with self.assertRaises(NoBuyer):
                ask()
        for kinds in WRONG_KINDS:
            for bids in [MENDED, Bids(2, [(300, (5, 5))])]:
                with self.assertRaises(BadRow, msg=kinds) as caught:
                    units_in(bids, region, kinds)
                self.assertIs(caught.exception.row, kinds)
        great = Bids(2, [(42, (5, 0)), (6, (0, 6))])
        for region in [EVERYWHERE[2], Region((9, 9), (9, 9), ())]:
            for ask in [lambda: taken_in(great, region), lambda: units_in(great, region, (0,)),
                        lambda: units_in(great, region, ())]:
                with self.assertRaises(TooMany) as caught:
                    ask()
                self.assertEqual((caught.exception.what, caught.exception.limit), ("bundles", 300))
        most = Bids(2, [(99, (5, 0)), (2, (0, 6))])
        self.assertEqual(len(taken_in(most, EVERYWHERE[2])), 300)
        self.assertEqual(units_in(most, EVERYWHERE[2], (0, 1)), (0, 101))

    def test_unlike_kinds_come_first(self):
        worse = Bids(2, [(-1, (1, 1))])
        for region in [EVERYWHERE[1], EVERYWHERE[3]]:
            for ask in [lambda: alike_in(worse, worse, region), lambda: never_below_in(worse, MENDED, region),
                        lambda: taken_in(worse, region), lambda: units_in(worse, region, None),
                        lambda: alike_in(worse, Bids(region.kinds, []), region),
                        lambda: never_below_in(Bids(region.kinds, []), worse, region),
                        lambda: units_in(Bids(2, [(300, (1, 1))]), region, None)]:
                with self.assertRaises(Unlike) as caught:
                    ask()
                self.assertEqual(caught.exception.what, "kinds")
        with self.assertRaises(Unlike):
            alike_in(worse, Bids(1, []), EVERYWHERE[2])
        with self.assertRaises(Unlike):
            never_below_in(Bids(3, []), worse, EVERYWHERE[2])


if __name__ == "__main__":
    unittest.main()
