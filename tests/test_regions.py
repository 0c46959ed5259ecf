"""Points 26 and 27: sets of prices, told by tight bounds."""

import itertools
import random
import unittest
from fractions import Fraction

from allbids.errors import BadRow, Unlike
from allbids.regions import Region

from oracles import pair

FAR = 24


def random_bounds(rng, kinds, bottom):
    """Bounds whose tops over bottom are at most 4, so that all tight ones are at most 8."""
    lows = [(rng.randint(0, 2), bottom) for _ in range(kinds)]
    highs = [rng.choice([None, (rng.randint(0, 4), bottom)]) for _ in range(kinds)]
    gaps = []
    for _ in range(rng.randint(0, 3) if kinds > 1 else 0):
        i, j = rng.sample(range(kinds), 2)
        gaps.append((i, j, (rng.randint(-2, 2), bottom)))
    return lows, highs, gaps


def points_of(lows, highs, gaps):
    """All points of a grid within bounds that have one bottom, as tops."""
    found = []
    for point in itertools.product(range(FAR + 1), repeat=len(lows)):
        if all(point[k] >= lows[k][0] for k in range(len(lows))):
            if all(highs[k] is None or point[k] <= highs[k][0] for k in range(len(lows))):
                if all(point[i] - point[j] <= c[0] for i, j, c in gaps):
                    found.append(point)
    return found


def tight_by(points, kinds, bottom):
    """The tight bounds; what comes near to the far end of the grid has no bound."""
    lows = tuple(pair(Fraction(min(p[k] for p in points), bottom)) for k in range(kinds))
    tops = [max(p[k] for p in points) for k in range(kinds)]
    highs = tuple(None if top > 10 else pair(Fraction(top, bottom)) for top in tops)
    gaps = []
    for i, j in itertools.permutations(range(kinds), 2):
        gap = max(p[i] - p[j] for p in points)
        if gap <= 10:
            gaps.append((i, j, pair(Fraction(gap, bottom))))
    return lows, highs, tuple(gaps)


class Tight(unittest.TestCase):
    def test_tight_bounds(self):
        rng = random.Random(26)
        empty = 0
        for _ in range(150):
            kinds, bottom = rng.choice([1, 2, 3]), rng.choice([1, 2, 3])
            bounds = random_bounds(rng, kinds, bottom)
            points = points_of(*bounds)
            if not points:
                empty += 1
                with self.assertRaises(Unlike) as caught:
                    Region(*bounds)
                self.assertEqual(caught.exception.what, "bounds")
                continue
            region = Region(*bounds)
            self.assertEqual(region.kinds, kinds)
            self.assertEqual((region.lows, region.highs, region.gaps), tight_by(points, kinds, bottom))
            again = Region(region.lows, region.highs, region.gaps)
            self.assertTrue(again == region)
            for _ in range(20):
                point = tuple(rng.randint(0, 7) for _ in range(kinds))
                self.assertIs(region.has([(top, bottom) for top in point]), point in points)
        self.assertTrue(10 < empty < 100)

    def test_told_forms(self):
        region = Region([1, [2, 4]], [None, (6, 4)], [[0, 1, 3], (0, 1, (10, 4)), [1, 0, [0, 5]]])
        self.assertEqual(region.kinds, 2)
        self.assertEqual(region.lows, ((1, 1), (1, 2)))
        self.assertEqual(region.highs, ((4, 1), (3, 2)))
        self.assertEqual(region.gaps, ((0, 1, (5, 2)), (1, 0, (0, 1))))
        self.assertEqual(repr(region.highs), "((4, 1), (3, 2))")

    def test_nothing_bounded(self):
        for kinds in [1, 2, 3]:
            region = Region((0,) * kinds, (None,) * kinds, ())
            self.assertEqual((region.lows, region.highs, region.gaps), (((0, 1),) * kinds, (None,) * kinds, ()))
            self.assertIs(region.has((0,) * kinds), True)
            self.assertIs(region.has((10 ** 30,) * kinds), True)

    def test_a_row_of_gaps_twice(self):
        region = Region((0, 0), (None, None), ((0, 1, 5), (0, 1, 2), (0, 1, 3)))
        self.assertEqual(region.gaps, ((0, 1, (2, 1)),))

    def test_gaps_that_come_from_other_bounds(self):
        region = Region((0, 2), (5, None), ())
        self.assertEqual(region.gaps, ((0, 1, (3, 1)),))
        self.assertEqual(Region((0, 0), (5, None), ((1, 0, -1),)).highs, ((5, 1), (4, 1)))
        self.assertEqual(Region((0, 0), (5, None), ((1, 0, -1),)).lows, ((1, 1), (0, 1)))
        ring = Region((0, 0, 0), (None,) * 3, ((0, 1, -1), (1, 2, 3)))
        self.assertEqual(ring.gaps, ((0, 1, (-1, 1)), (0, 2, (2, 1)), (1, 2, (3, 1))))

    def test_nothing_keeps_them(self):
        for lows, highs, gaps in [((3,), (2,), ()), ((0, 0), (None, None), ((0, 1, -1), (1, 0, 0))),
                                  ((0, 5), (None, 9), ((1, 0, 1), (0, 1, (-1, 1000)), (1, 0, 0))),
                                  ((0, 0), (1, None), ((1, 0, -2),)), ((4, 0), (None, 1), ((0, 1, 2),)),
                                  ((0, 0, 0), (None,) * 3, ((0, 1, 1), (1, 2, 1), (2, 0, (-2001, 1000))))]:
            with self.assertRaises(Unlike) as caught:
                Region(lows, highs, gaps)
            self.assertEqual(caught.exception.what, "bounds")
        point = Region((0, 0, 0), (None,) * 3, ((0, 1, 1), (1, 2, 1), (2, 0, -2)))
        self.assertEqual(point.lows, ((2, 1), (1, 1), (0, 1)))


class Errors(unittest.TestCase):
    def check_row(self, lows, highs, gaps, row):
        with self.assertRaises(BadRow, msg=row) as caught:
            Region(lows, highs, gaps)
        self.assertIs(caught.exception.row, row)

    def test_lows(self):
        for lows in [None, 5, "11", (), (1, 1, 1, 1), (1, -1), (1, (-1, 2)), (1, None), (True, 1), (1, (1, 0)),
                     (1, 1.5), {0: 1}]:
            self.check_row(lows, None, [None], lows)

    def test_highs(self):
        for highs in [None, 5, "11", (), (1,), (1, 1, 1), (1, -1), (None, (-1, 2)), (1, True), (1, (1, 0)), (1, "1"),
                      {0: 1, 1: 1}]:
            self.check_row((5, 5), highs, [None], highs)

    def test_gaps(self):
        for row in [None, 5, "012", (), (0, 1), (0, 1, 2, 3), (0, 0, 1), (0, 2, 1), (-1, 0, 1), (True, 0, 1),
                    (0, False, 1), (0, 1, None), (0, 1, (1, 0)), (0, 1, True), ("0", 1, 1), (0, 1.0, 1),
                    {0: 1, 1: 2, 2: 3}]:
            self.check_row((5, 5), (1, 1), [(0, 1, 3), [1, 0, [-5, 2]], row, None], row)

    def test_one_kind_has_no_gaps(self):
        row = (0, 1, 1)
        self.check_row((0,), (None,), (row,), row)

    def test_prices(self):
        region = Region((0, 0), (3, 3), ())
        for prices in [None, 5, "11", (), (1,), (1, 1, 1), (1, -1), (1, True), (1, (1, 0)), (1, None), {0: 1, 1: 1}]:
            with self.assertRaises(BadRow, msg=prices) as caught:
                region.has(prices)
            self.assertIs(caught.exception.row, prices)

    def test_unlike_kinds(self):
        one, other = Region((0, 0), (None, None), ()), Region((0,), (None,), ())
        for ask in [one.common, one.within]:
            with self.assertRaises(Unlike) as caught:
                ask(other)
            self.assertEqual(caught.exception.what, "kinds")


class Sets(unittest.TestCase):
    def test_common_and_within(self):
        rng = random.Random(27)
        count = {"common": 0, "within": 0}
        made = []
        while len(made) < 60:
            kinds, bottom = rng.choice([1, 2, 2, 3]), 2
            bounds = random_bounds(rng, kinds, bottom)
            points = points_of(*bounds)
            if points:
                made.append((Region(*bounds), set(points)))
        for one, points in made:
            for other, others in made:
                if one.kinds != other.kinds:
                    continue
                both = one.common(other)
                if points & others:
                    count["common"] += 1
                    self.assertEqual((both.lows, both.highs, both.gaps),
                                     tight_by(points & others, one.kinds, 2))
                else:
                    self.assertIsNone(both)
                self.assertIs(one.within(other), points <= others)
                self.assertIs(one == other, points == others)
                self.assertIs(one != other, points != others)
                count["within"] += points <= others and points != others
        self.assertTrue(min(count.values()) > 20)

    def test_equal(self):
        one = Region((0, 2), (5, None), ((1, 0, 4),))
        self.assertTrue(one == Region([0, [4, 2]], [5, 9], [(0, 1, 3), (1, 0, (8, 2)), (1, 0, 7)]))
        self.assertFalse(one == Region((0, 2), (5, None), ()))
        for value in [None, 5, (one.lows, one.highs, one.gaps), object()]:
            self.assertFalse(one == value)
            self.assertTrue(one != value)
        self.assertFalse(Region((0,), (None,), ()) == Region((0, 0), (None, None), ()))

    def test_has_its_ends(self):
        region = Region((1, 0), ((7, 2), None), ((1, 0, (1, 3)),))
        for prices, inside in [((1, 0), True), ((1, (4, 3)), True), ((1, (401, 300)), False), (((7, 2), 0), True),
                               (((99, 100), 0), False), (((351, 100), 0), False), ([[7, 2], [23, 6]], True)]:
            self.assertIs(region.has(prices), inside, prices)

    def test_what_it_is_given_is_copied(self):
        lows, highs, row = [0, [1, 2]], [None, 3], [0, 1, [5, 2]]
        gaps = [row]
        region = Region(lows, highs, gaps)
        before = (region.lows, region.highs, region.gaps)
        lows[1][0] = 9
        lows[0] = 9
        highs[0] = 1
        row[2][0] = 0
        gaps.append(None)
        self.assertEqual((region.lows, region.highs, region.gaps), before)
        other = Region((1, 0), (2, 2), ())
        region.common(other), region.within(other), region.has((1, 1)), region == other
        self.assertEqual((region.lows, region.highs, region.gaps), before)


if __name__ == "__main__":
    unittest.main()
