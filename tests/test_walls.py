"""Points 15 to 22: planes, walls and their weights, cells, buyers, barriers, bent prices."""

import itertools
import random
import unittest
from fractions import Fraction

from allbids.bids import Bids
from allbids.errors import BadRow, Unlike
from allbids.gains import bends, convex_at
from allbids.walls import Barrier, barrier, barrier_above, bent_prices, cells, is_buyer, walls, weight_at

from oracles import (BARRED, MENDED, fraction, fractions, gain_by, height, mended_lists, pair, pairs, planes_by,
                     random_bids, random_lists, weight_by_turns)

NO_WALLS = [None, 5, "at", (), ("at",), ("at", 0), ("at", 0, 1, 1), ("at", 2, 1), ("at", -1, 1), ("at", True, 1),
            ("at", 0, 0), ("at", 0, -1), ("at", 0, (-1, 2)), ("at", 0, (0, 3)), ("at", 0, (1, 0)), ("at", 0, None),
            ("at", 0, True), ("at", 0, 1.5), ("at", "0", 1), ("as", 0, 1), ("as", 1, 0, 1), ("as", 0, 0, 1),
            ("as", 0, 2, 1), ("as", False, 1, 1), ("as", 0, True, 1), ("as", 0, 1, None), ("as", 0, 1, (1, 0)),
            ("as", 0, 1, 1, 1), ("on", 0, 1), ("AT", 0, 1), (b"at", 0, 1), ["at", [0], 1], {"at": 1}, (0, 0, 1),
            ("as", 0, 1, True), (["at"], 0, 1), ("as", 0, 1)]


def sides(bids, plane, prices):
    """On which side of each other plane prices are; None if they are on one."""
    heights = [height(other, prices) for other in planes_by(bids) if other != plane]
    if any(value == 0 for value in heights):
        return None
    return tuple(value > 0 for value in heights)


def prices_on(rng, kinds, plane, lows):
    """Prices on a wall, perhaps not above lows."""
    prices = [low + Fraction(rng.randint(1, 50), rng.choice([3, 5, 7])) for low in lows]
    if plane[0] == "at":
        prices[plane[1]] = fraction(plane[2])
    else:
        prices[plane[1]] = prices[plane[2]] + fraction(plane[3])
    return prices


class Walls(unittest.TestCase):
    def test_all_planes_ascending(self):
        bids = Bids(3, [(1, (4, (1, 2), 0)), (2, (4, 3, 1)), (-1, (0, 0, (1, 3)))])
        self.assertEqual(walls(bids), (
            ("at", 0, (4, 1)), ("at", 1, (1, 2)), ("at", 1, (3, 1)), ("at", 2, (1, 3)), ("at", 2, (1, 1)),
            ("as", 0, 1, (1, 1)), ("as", 0, 1, (7, 2)), ("as", 0, 2, (3, 1)), ("as", 1, 2, (2, 1))))
        self.assertEqual(walls(Bids(2, [])), ())
        self.assertEqual(walls(Bids(1, [(-3, ((3, 6),))])), (("at", 0, (1, 2)),))

    def test_just_those_with_a_weight(self):
        for rng, bids in random_lists(20, 120, bottoms=(1, 2)):
            told = walls(bids)
            self.assertEqual(told, planes_by(bids))
            for plane in told:
                self.assertTrue(any(weight != 0 for _, weight in cells(bids, plane)))

    def test_a_list_of_barred_weights(self):
        self.assertEqual(walls(BARRED), (("at", 0, (1, 1)), ("at", 0, (3, 1)), ("at", 1, (1, 1)),
                                         ("as", 0, 1, (0, 1))))


class Weights(unittest.TestCase):
    def test_weight_by_its_words(self):
        plain = 0
        for rng, bids in random_lists(21, 150, bottoms=(1, 2)):
            kinds = bids.kinds
            extra = [("at", 0, (5, 7))] + ([("as", 0, 1, (1, 7))] if kinds > 1 else [])
            for plane in list(planes_by(bids)) + extra:
                for _ in range(5):
                    prices = prices_on(rng, kinds, plane, [0] * kinds)
                    if min(prices) > 0 and sides(bids, plane, prices) is not None:
                        plain += 1
                        told = weight_at(bids, plane, pairs(prices))
                        self.assertEqual(told, weight_by_turns(bids, plane, prices))
                        if plane in extra:
                            self.assertEqual(told, 0)
                    else:
                        with self.assertRaises(Unlike) as caught:
                            weight_at(bids, plane, pairs(prices))
                        self.assertEqual(caught.exception.what, "place")
        self.assertTrue(plain > 1000)

    def test_forms_of_walls_and_prices(self):
        bids = Bids(2, [(2, ((3, 2), 1)), (-1, ((3, 2), 4))])
        for plane in [("at", 0, (3, 2)), ["at", 0, [6, 4]], ("at", 0, [3, 2])]:
            for prices in [((3, 2), 2), [[6, 4], (4, 2)], [(3, 2), 3]]:
                self.assertEqual(weight_at(bids, plane, prices), 2)
            self.assertEqual(weight_at(bids, plane, ((3, 2), 5)), 1)
        self.assertEqual(weight_at(bids, ["as", 0, 1, (1, 2)], (1, (1, 2))), 2)
        self.assertEqual(weight_at(bids, ("as", 0, 1, [-10, 4]), ((1, 4), (11, 4))), -1)
        self.assertEqual(weight_at(bids, ("at", 1, 2), (1, 2)), 0)

    def test_prices_that_are_not_plain(self):
        bids = Bids(2, [(2, (3, 1)), (1, (3, 4))])
        for plane, prices in [(("at", 0, 3), (2, 2)), (("at", 0, 3), (3, 1)), (("at", 0, 3), (3, 4)),
                              (("at", 0, 3), (3, 0)), (("as", 0, 1, 2), (2, 0)), (("as", 0, 1, 2), (3, 1)),
                              (("at", 0, 2), (3, 2)), (("at", 0, 2), (2, 3)), (("at", 0, 2), (2, 4)),
                              (("at", 0, 2), (2, 0)), (("as", 0, 1, 1), (3, 2))]:
            with self.assertRaises(Unlike, msg=(plane, prices)) as caught:
                weight_at(bids, plane, prices)
            self.assertEqual(caught.exception.what, "place")

    def test_what_is_no_wall(self):
        bids = Bids(2, [(1, (1, 1))])
        for value in NO_WALLS:
            for ask in [lambda: weight_at(bids, value, (1, 1)), lambda: cells(bids, value)]:
                with self.assertRaises(BadRow, msg=value) as caught:
                    ask()
                self.assertIs(caught.exception.row, value)

    def test_walls_of_kinds_that_the_list_lacks(self):
        for value in [("at", 1, 1), ("as", 0, 1, 0)]:
            with self.assertRaises(BadRow):
                weight_at(Bids(1, []), value, (1,))
        self.assertEqual(weight_at(Bids(3, []), ("as", 1, 2, 0), (1, 2, 2)), 0)


class Cells(unittest.TestCase):
    def test_each_cell_once_and_all_of_them(self):
        for rng, bids in random_lists(22, 80, bottoms=(1, 2)):
            kinds = bids.kinds
            extra = [("at", 0, (5, 7))] + ([("as", 0, 1, (1, 7))] if kinds > 1 else [])
            for plane in list(planes_by(bids)) + extra:
                told = cells(bids, plane)
                found = set()
                for place, weight in told:
                    prices = fractions(place)
                    self.assertEqual(place, pairs(prices))
                    self.assertTrue(min(prices) > 0 and height(plane, prices) == 0)
                    self.assertEqual(weight, weight_by_turns(bids, plane, prices))
                    self.assertEqual(weight, weight_at(bids, plane, place))
                    found.add(sides(bids, plane, prices))
                self.assertNotIn(None, found)
                self.assertEqual(len(found), len(told))
                for _ in range(20):
                    prices = prices_on(rng, kinds, plane, [0] * kinds)
                    if min(prices) > 0 and sides(bids, plane, prices) is not None:
                        self.assertIn(sides(bids, plane, prices), found)

    def test_all_cells_of_a_fine_grid(self):
        rng = random.Random(23)
        for _ in range(6):
            bids = random_bids(rng, 3, 3, 3)
            steps = [Fraction(2 * k + 1, 8) for k in range(40)]
            for plane in planes_by(bids):
                found = set()
                for one, two in itertools.product(steps, steps):
                    two += Fraction(1, 16)
                    if plane[0] == "at":
                        prices = [one, two]
                        prices.insert(plane[1], fraction(plane[2]))
                    else:
                        i, j = plane[1], plane[2]
                        over = {j: one, i: one + fraction(plane[3]), 3 - i - j: two}
                        prices = [over[k] for k in range(3)]
                    if min(prices) > 0 and sides(bids, plane, prices) is not None:
                        found.add(sides(bids, plane, prices))
                told = {sides(bids, plane, fractions(place)) for place, _ in cells(bids, plane)}
                self.assertEqual(found, told)

    def test_cells_of_one_and_two_kinds(self):
        self.assertEqual(cells(Bids(1, [(3, (2,)), (1, (5,))]), ("at", 0, 2)), ((((2, 1),), 3),))
        self.assertEqual(cells(Bids(1, []), ("at", 0, (2, 4))), ((((1, 2),), 0),))
        weights = sorted(weight for _, weight in cells(BARRED, ("at", 0, 1)))
        self.assertEqual(weights, [-1, 0])
        weights = sorted(weight for _, weight in cells(BARRED, ("as", 0, 1, 0)))
        self.assertEqual(weights, [-1, 0, 0])

    def test_six_bids_of_three_kinds(self):
        rng = random.Random(24)
        bids = random_bids(rng, 3, 6, 10 ** 6, bottoms=(1, 8, 1000))
        for plane in walls(bids)[::5]:
            told = cells(bids, plane)
            found = {sides(bids, plane, fractions(place)) for place, _ in told}
            self.assertEqual(len(found), len(told))
            for place, weight in told:
                self.assertEqual(weight, weight_at(bids, plane, place))

    def test_equal_calls_tell_the_same(self):
        self.assertEqual(cells(BARRED, ("at", 0, 1)), cells(BARRED, ["at", 0, [2, 2]]))


class Buyers(unittest.TestCase):
    def check_bent(self, bids):
        """What barrier and bent_prices tell of a list that is no buyer."""
        found = barrier(bids)
        self.assertIsInstance(found, Barrier)
        self.assertTrue(found.weight < 0)
        self.assertIn(found.wall, walls(bids))
        self.assertEqual(weight_at(bids, found.wall, found.place), found.weight)
        self.assertEqual(found.place, pairs(fractions(found.place)))
        low, middle, high = bent_prices(bids)
        rows = [fractions(low), fractions(middle), fractions(high)]
        self.assertEqual((low, middle, high), tuple(pairs(row) for row in rows))
        self.assertTrue(min(min(row) for row in rows) >= 0)
        kind = next(k for k in range(bids.kinds) if rows[0][k] != rows[2][k])
        part = (rows[1][kind] - rows[0][kind]) / (rows[2][kind] - rows[0][kind])
        self.assertTrue(0 < part < 1)
        self.assertEqual(rows[1], [(1 - part) * a + part * b for a, b in zip(rows[0], rows[2])])
        straight = (1 - part) * gain_by(bids, rows[0]) + part * gain_by(bids, rows[2])
        self.assertTrue(gain_by(bids, rows[1]) > straight)
        self.assertIs(convex_at(bids, low, middle, high), False)
        self.assertTrue(any(change[0] < 0 for _, change in bends(bids, low, high)))

    def test_buyers_are_those_without_a_weight_below_zero(self):
        count = {True: 0, False: 0}
        for rng, bids in random_lists(25, 250, bottoms=(1, 2)):
            wanted = all(weight >= 0 for plane in planes_by(bids) for _, weight in cells(bids, plane))
            count[wanted] += 1
            self.assertIs(is_buyer(bids), wanted)
            if wanted:
                self.assertIsNone(barrier(bids))
                self.assertIsNone(bent_prices(bids))
                self.assertIsNone(barrier_above(bids, (0,) * bids.kinds))
            else:
                self.check_bent(bids)
        self.assertTrue(min(count.values()) > 50)

    def test_buyers_with_weights_below_zero(self):
        below = 0
        for rng, bids in mended_lists(26, 60):
            below += any(weight < 0 for weight, _ in bids.rows)
            self.assertIs(is_buyer(bids), True)
            self.assertIsNone(barrier(bids))
            self.assertIsNone(bent_prices(bids))
            for _ in range(5):
                ends = [pairs(Fraction(rng.randint(0, 12), 2) for _ in range(bids.kinds)) for _ in range(2)]
                self.assertTrue(all(change[0] > 0 for _, change in bends(bids, *ends)))
        self.assertTrue(below > 20)

    def test_plain_buyers(self):
        self.assertIs(is_buyer(Bids(3, [])), True)
        self.assertIs(is_buyer(Bids(1, [(1, (3,)), (5, (2,))])), True)
        self.assertIs(is_buyer(Bids(1, [(5, (3,)), (-1, (2,))])), False)
        self.assertIs(is_buyer(MENDED), True)
        self.assertIs(is_buyer(Bids(2, [(1, (2, 1)), (1, (1, 2)), (-1, (1, 1))])), False)
        self.assertIs(is_buyer(Bids(2, [(1, (2, 0)), (1, (0, 2)), (-1, (2, 2))])), False)
        self.assertIs(is_buyer(Bids(2, [(1, (2, 2)), (-1, (1, 1))])), False)
        self.check_bent(Bids(2, [(1, (2, 2)), (-1, (1, 1))]))

    def test_one_more_unit_below_zero(self):
        for rng, bids in mended_lists(27, 40):
            for weight, numbers in bids.rows:
                worse = bids + Bids(bids.kinds, [(-weight - 1, numbers)])
                wanted = all(w >= 0 for plane in planes_by(worse) for _, w in cells(worse, plane))
                self.assertIs(is_buyer(worse), wanted)
                if not wanted:
                    self.check_bent(worse)

    def test_a_weight_below_zero_in_one_small_cell(self):
        """The bid turns alone only where p_1 is between 5 and 5 + 1/1000."""
        near = (5001, 1000)
        bids = Bids(2, [(3, (7, near)), (-1, (7, 5))])
        self.check_bent(bids)
        for many in [1, 2]:
            tiny = Bids(3, [(many, (7, near, 0)), (-1, (7, 5, 9)), (2, (7, 5, (8999, 1000))), (5, (9, 9, 9))])
            self.check_bent(tiny)
        mended = Bids(2, [(3, (7, 5)), (-1, (7, near)), (1, (0, near)), (1, (8, near))])
        wanted = all(w >= 0 for plane in planes_by(mended) for _, w in cells(mended, plane))
        self.assertIs(is_buyer(mended), wanted)

    def test_a_weight_below_zero_on_one_wall_alone(self):
        """Only on p_0 = p_1, below 5, where p_2 is between p_0 - 3 and p_0 - 3 + part."""
        for part in [(1, 1), (1, 1000)]:
            near = pair(2 + fraction(part))
            rows = [(-1, (5, 5, 2)), (1, (5, 5, near)), (1, (5, 0, 2)), (1, (0, 5, 2))]
            for order in itertools.permutations(range(3)):
                bids = Bids(3, [(weight, [numbers[k] for k in order]) for weight, numbers in rows])
                barred = [plane for plane in walls(bids) if min(weight for _, weight in cells(bids, plane)) < 0]
                kinds = sorted([order.index(0), order.index(1)])
                self.assertEqual(barred, [("as", kinds[0], kinds[1], (0, 1))])
                self.assertEqual(barrier(bids).wall, barred[0])
                self.check_bent(bids)
                lows = [0, 0, 0]
                lows[order.index(2)] = 2
                self.assertIsNotNone(barrier_above(bids, lows))
                lows[order.index(2)] = near
                self.assertIsNone(barrier_above(bids, lows))

    def test_barrier_keeps_what_it_is_given(self):
        made = Barrier(["at", 0, [1, 2]], [[1, 2], (3, 1)], -4)
        self.assertEqual((made.wall, made.place, made.weight), (("at", 0, (1, 2)), ((1, 2), (3, 1)), -4))


class Above(unittest.TestCase):
    def test_the_list_of_point_21(self):
        self.assertIs(is_buyer(BARRED), False)
        self.assertIsNone(barrier_above(BARRED, (1, 0)))
        self.assertIsNone(barrier_above(BARRED, [[2, 2], 0]))
        for prices in [(0, 0), ((99, 100), 0), ((99, 100), 50), (0, 10 ** 6)]:
            found = barrier_above(BARRED, prices)
            self.assertTrue(all(place > low for place, low in zip(fractions(found.place), fractions(prices))))
            self.assertEqual(weight_at(BARRED, found.wall, found.place), found.weight)
            self.assertTrue(found.weight < 0)

    def test_barriers_above_prices(self):
        count = {True: 0, False: 0}
        for rng, bids in random_lists(28, 150, below=0.4):
            lows = [Fraction(rng.randint(0, 8), rng.choice([1, 2, 3])) for _ in range(bids.kinds)]
            found = barrier_above(bids, pairs(lows))
            count[found is None] += 1
            if found is not None:
                self.assertTrue(all(place > low for place, low in zip(fractions(found.place), lows)))
                self.assertIn(found.wall, walls(bids))
                self.assertEqual(weight_at(bids, found.wall, found.place), found.weight)
                self.assertTrue(found.weight < 0)
                continue
            for plane in planes_by(bids):
                for _ in range(20):
                    prices = prices_on(rng, bids.kinds, plane, lows)
                    above = all(price > low for price, low in zip(prices, lows))
                    if above and sides(bids, plane, prices) is not None:
                        self.assertTrue(weight_by_turns(bids, plane, prices) >= 0)
        self.assertTrue(min(count.values()) > 20)

    def test_just_above_and_just_below(self):
        bids = Bids(3, [(4, (9, 9, 9)), (-1, (2, 3, 4))])
        self.assertIsNotNone(barrier_above(bids, ((1999, 1000), 3, 4)))
        self.assertIsNotNone(barrier_above(bids, (2, (2999, 1000), 4)))
        self.assertIsNotNone(barrier_above(bids, (0, 3, 4)))
        self.assertIsNone(barrier_above(bids, (2, 3, 4)))


class Great(unittest.TestCase):
    def test_twelve_bids(self):
        rng = random.Random(29)
        for kinds, top in [(2, 10 ** 9), (3, 10 ** 9), (3, 3), (3, 3000), (2, 4)]:
            rows = [(rng.randint(1, 200), [(rng.randint(1, top), 1000) for _ in range(kinds)]) for _ in range(12)]
            bids = Bids(kinds, rows)
            self.assertIs(is_buyer(bids), True)
            self.assertEqual(walls(bids), planes_by(bids))
            worse = bids + Bids(kinds, [(-weight - 1, numbers) for weight, numbers in bids.rows[:4]])
            found = barrier(worse)
            self.assertEqual(weight_at(worse, found.wall, found.place), found.weight)
            self.assertTrue(found.weight < 0)
            low, middle, high = bent_prices(worse)
            self.assertIs(convex_at(worse, low, middle, high), False)

    def test_twelve_bids_that_share_planes(self):
        for step in [1, 2]:
            rows = [(5, (7, 7 + a * step, 9 + b)) for a in range(4) for b in range(3)]
            bids = Bids(3, rows)
            self.assertIs(is_buyer(bids), True)
            for spot in range(12):
                worse = bids + Bids(3, [(-6, rows[spot][1])])
                found = barrier(worse)
                if found is None:
                    self.assertTrue(all(w >= 0 for plane in planes_by(worse) for _, w in cells(worse, plane)))
                else:
                    self.assertEqual(weight_at(worse, found.wall, found.place), found.weight)
                self.assertIs(is_buyer(worse), found is None)


if __name__ == "__main__":
    unittest.main()
