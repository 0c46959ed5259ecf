"""Points 73 to 77: least prices at all supplies."""

import random
import unittest

from allbids.bids import Bids, wants
from allbids.errors import BadNumber, BadRow, NoBuyer, TooLarge, TooMany, Unlike
from allbids.markets import Market, least_prices
from allbids.supplies import free_from, line_steps, matters, never_dearer, price_steps, same_prices

from oracles import BARRED, MENDED, box_by, least_by, moved_by, pairs, random_bids, random_buyer

WRONG_BUNDLES = [None, 5, "11", (), (1,), (1, 1, 1), (1, -1), (1, True), (1, (1, 1)), (1, 1.0), (1, None),
                 {0: 1, 1: 1}]
NO_KINDS = [-1, 2, True, None, "0", (0, 1), 1.0]
ONE = Bids(2, [(2, (3, 0)), (1, (0, (1, 2)))])


def at(bids, supply):
    return least_prices(Market([bids], supply))


def steps_by(rows):
    """The pairs (place, value) of which the value is another one than that ahead of it."""
    return tuple(row for k, row in enumerate(rows) if k == 0 or row[1] != rows[k - 1][1])


def clamped(supply, caps):
    return tuple(min(one, other) for one, other in zip(supply, caps))


class Raises(unittest.TestCase):
    def fails(self, error, values, call, *arguments):
        with self.assertRaises(error) as caught:
            call(*arguments)
        self.assertIs(caught.exception.__class__, error)
        fields = list(vars(caught.exception).values())
        self.assertEqual(len(fields), len(values))
        for field, value in zip(fields, values):
            self.assertTrue(field is value or field == value and field.__class__ is value.__class__, fields)


class PriceSteps(Raises):
    def test_told(self):
        bids = Bids(1, [(2, (5,)), (1, (3,)), (1, ((1, 2),))])
        steps = ((0, (5, 1)), (2, (3, 1)), (3, (1, 2)), (4, (0, 1)))
        self.assertEqual(price_steps(bids, 0, (0,), 100), steps)
        self.assertEqual(price_steps(bids, 0, [7], 4), steps)
        self.assertEqual(price_steps(bids, 0, (60,), 3), steps[:3])
        self.assertEqual(price_steps(bids, 0, (0,), 1), steps[:1])
        self.assertEqual(price_steps(bids, 0, (0,), 0), steps[:1])
        self.assertEqual(price_steps(Bids(1, []), 0, (0,), 100), ((0, (0, 1)),))

    def test_own_supply_does_not_count(self):
        bids = Bids(2, [(1, (5, 4)), (1, (3, 3))])
        for units in (0, 1, 9):
            self.assertEqual(price_steps(bids, 0, (units, 1), 5), ((0, (4, 1)), (1, (0, 1))))
            self.assertEqual(price_steps(bids, 1, (1, units), 5), ((0, (3, 1)), (1, (0, 1))))
        self.assertEqual(price_steps(bids, 0, (0, 0), 5), ((0, (5, 1)), (1, (3, 1)), (2, (0, 1))))

    def test_by_markets(self):
        rng = random.Random(74)
        for _ in range(80):
            kinds = rng.choice([1, 2, 3])
            bids = random_buyer(rng, kinds, rng.choice([2, 6]))
            kind, most = rng.randrange(kinds), rng.randint(0, 8)
            supply = tuple(rng.randint(0, 3) for _ in range(kinds))
            rows = [(n, at(bids, moved_by(supply, kind, n - supply[kind]))[kind]) for n in range(most + 1)]
            self.assertEqual(price_steps(bids, kind, supply, most), steps_by(rows))

    def test_most_of_100(self):
        rng = random.Random(75)
        bids = random_bids(rng, 2, 12, 50, (1, 7, 1000), below=0)
        bids = 5 * bids + Bids(2, [(30, (7, 9))])
        rows = [(n, at(bids, (n, 20))[0]) for n in range(101)]
        self.assertEqual(price_steps(bids, 0, (3, 20), 100), steps_by(rows))

    def test_errors(self):
        for wrong in NO_KINDS:
            self.fails(BadNumber, ["kind", wrong], price_steps, ONE, wrong, None, None)
            self.fails(NoBuyer, [], price_steps, BARRED, wrong, None, None)
        for wrong in WRONG_BUNDLES:
            self.fails(BadRow, [wrong], price_steps, ONE, 1, wrong, 101)
        for wrong in (-1, True, None, "3", 1.0, (3, 1)):
            self.fails(BadNumber, ["most", wrong], price_steps, ONE, 1, (1, 1), wrong)
        for wrong in (101, 10 ** 30):
            self.fails(TooLarge, ["most", wrong, 100], price_steps, ONE, 1, (1, 1), wrong)


class LineSteps(Raises):
    def test_told(self):
        bids = Bids(1, [(2, (5,)), (1, (3,)), (1, ((1, 2),))])
        self.assertEqual(line_steps(bids, (0,), (1,)),
                         ((0, ((5, 1),)), (2, ((3, 1),)), (3, ((1, 2),)), (4, ((0, 1),))))
        self.assertEqual(line_steps(bids, [1], [2]), ((0, ((5, 1),)), (1, ((1, 2),)), (2, ((0, 1),))))
        self.assertEqual(line_steps(bids, (3,), (0,)), ((0, ((1, 2),)),))
        self.assertEqual(line_steps(bids, (9,), (5,)), ((0, ((0, 1),)),))
        self.assertEqual(line_steps(Bids(3, []), (0, 0, 0), (1, 2, 3)), ((0, ((0, 1),) * 3),))

    def test_zeros(self):
        bids = Bids(2, [(1, (5, 4)), (2, (3, 3)), (1, (0, 2))])
        self.assertEqual(line_steps(bids, (0, 1), (0, 0)), ((0, at(bids, (0, 1))),))
        self.assertEqual(line_steps(bids, (0, 0), (1, 0))[-1][1], ((0, 1), (2, 1)))
        self.assertEqual(line_steps(bids, (1, 0), (0, 3))[-1][1], ((0, 1), (0, 1)))

    def test_by_markets(self):
        rng = random.Random(76)
        for _ in range(80):
            kinds = rng.choice([1, 2, 3])
            bids = random_buyer(rng, kinds, rng.choice([2, 6]))
            supply = tuple(rng.randint(0, 3) for _ in range(kinds))
            way = tuple(rng.choice([0, 0, 1, 1, 2, 5]) for _ in range(kinds))
            rows = [(n, at(bids, [s + n * w for s, w in zip(supply, way)])) for n in range(12)]
            self.assertEqual(line_steps(bids, supply, way), steps_by(rows))

    def test_long_lines(self):
        """The last step is the last one for all n."""
        bids = Bids(2, [(200, (5, 4)), (200, (3, 3)), (150, (0, 2)), (199, (1, (1, 3)))])
        rows = [(n, at(bids, (1, n))) for n in range(800)]
        told = line_steps(bids, (1, 0), (0, 1))
        self.assertEqual(told, steps_by(rows))
        self.assertEqual(told[-1][1], at(bids, (1, 10 ** 9)))
        self.assertEqual(line_steps(bids, (0, 0), (10 ** 20, 0)), ((0, at(bids, (0, 0))), (1, at(bids, (999, 0)))))
        self.assertEqual(line_steps(bids, (10 ** 20, 0), (1, 0)), ((0, at(bids, (999, 0))),))

    def test_errors(self):
        for wrong in WRONG_BUNDLES:
            self.fails(BadRow, [wrong], line_steps, ONE, wrong, (1, 1, 1))
            self.fails(BadRow, [wrong], line_steps, ONE, (1, 1), wrong)
            self.fails(NoBuyer, [], line_steps, BARRED, wrong, wrong)


class Matters(Raises):
    def test_told(self):
        one, more = Bids(1, [(2, (5,)), (1, (3,))]), Bids(1, [(1, (4,))])
        self.assertEqual(matters(one, more, (9,)), ((2,), (3,)))
        self.assertEqual(matters(one, more, [2]), ((2,),))
        self.assertEqual(matters(one, more, (1,)), ())
        self.assertEqual(matters(one, more, (0,)), ())
        self.assertEqual(matters(one, Bids(1, [(1, (6,))]), (0,)), ((0,),))
        self.assertEqual(matters(Bids(2, []), Bids(2, [(1, (0, 3))]), (1, 1)), ((0, 0), (1, 0)))

    def test_bids_that_change_nothing(self):
        one = Bids(2, [(2, (3, 4))])
        self.assertEqual(matters(one, Bids(2, []), (5, 5)), ())
        self.assertEqual(matters(one, Bids(2, [(1, (0, 0)), (0, (9, 9))]), (5, 5)), ())
        self.assertEqual(matters(MENDED, Bids(2, []), (5, 5)), ())
        self.assertEqual(matters(one, -one, (3, 0)), ((0, 0), (1, 0), (2, 0), (3, 0)))
        self.assertEqual(matters(one, -one, (3, 3)), tuple(x for x in box_by((3, 3)) if x[1] < 2))
        self.assertEqual(matters(one, Bids(2, [(-1, (3, 4))]), (1, 1)), ((0, 1), (1, 0), (1, 1)))

    def test_by_markets(self):
        rng = random.Random(77)
        for _ in range(60):
            kinds = rng.choice([1, 2, 3])
            one, more = random_buyer(rng, kinds), random_buyer(rng, kinds)
            if rng.random() < 0.5:
                one, more = one + more, -more
            caps = tuple(rng.randint(0, 4 if kinds < 3 else 2) for _ in range(kinds))
            differ = [x for x in box_by(caps) if at(one, x) != at(one + more, x)]
            self.assertEqual(matters(one, more, caps), tuple(differ))

    def test_sizes(self):
        bids = Bids(3, [(1, (5, 4, 3)), (4, (2, 2, 2))])
        for caps in ((9, 9, 9), (999, 0, 0), (0, 499, 1)):
            told = matters(bids, Bids(3, [(1, (1, 1, 1))]), caps)
            self.assertEqual(told, tuple(x for x in box_by(caps) if sum(x) == 5))
        for caps in ((9, 9, 10), (1000, 0, 0), (7, 7, 15)):
            self.fails(TooMany, ["supplies", 1000], matters, bids, bids, caps)

    def test_errors(self):
        for wrong in WRONG_BUNDLES + [(1000, 1, 1)]:
            self.fails(BadRow, [wrong], matters, ONE, ONE, wrong)
            self.fails(NoBuyer, [], matters, BARRED, Bids(2, [(1, (1, 1))]), wrong)
            self.fails(NoBuyer, [], matters, ONE, Bids(2, [(-1, (1, 1))]), wrong)
            self.fails(Unlike, ["kinds"], matters, BARRED, Bids(1, []), wrong)
        # More bids need be no buyer by themselves.
        self.assertEqual(matters(Bids(2, [(1, (1, 1))]), Bids(2, [(-1, (1, 1))]), (0, 1)), ((0, 0),))


class AllSupplies(Raises):
    def first(self, one, other, bad):
        """The first supply that a check is against, of all up to two units more than both lists take."""
        caps = [max(0, wants(one), wants(other)) + 2] * one.kinds
        first, second = least_by(one, caps), least_by(other, caps)
        return next((x for x in box_by(caps) if bad(first[x], second[x])), None)

    def check(self, one, other):
        dearer = self.first(one, other, lambda p, q: any(a > b for a, b in zip(p, q)))
        unlike = self.first(one, other, lambda p, q: p != q)
        self.assertEqual(never_dearer(one, other), dearer)
        self.assertEqual(same_prices(one, other), unlike)
        return dearer, unlike

    def test_told(self):
        self.assertEqual(self.check(Bids(1, [(1, (3,))]), Bids(1, [(1, (3,)), (1, (2,))])), (None, (1,)))
        self.assertEqual(self.check(Bids(1, [(1, (3,)), (1, (2,))]), Bids(1, [(1, (3,))])), ((1,), (1,)))
        self.assertEqual(self.check(Bids(2, []), Bids(2, [(1, (0, 1))])), (None, (0, 0)))
        self.assertEqual(self.check(Bids(2, [(1, (0, 1))]), Bids(2, [])), ((0, 0), (0, 0)))
        self.assertEqual(self.check(Bids(2, []), Bids(2, [])), (None, None))
        self.assertEqual(self.check(MENDED, MENDED), (None, None))
        one = Bids(1, [(100, ((1, 3),))])
        self.assertEqual(never_dearer(one, Bids(1, [(99, ((1, 3),)), (1, ((1, 1000),))])), (99,))
        self.assertEqual(same_prices(Bids(1, [(100, ((1, 3),))]), Bids(1, [(100, ((2, 6),))])), None)

    def test_far_supplies(self):
        """The first supply may need as many units as either list takes, or more than one of them does."""
        one = Bids(3, [(6, (3, 3, 3))])
        self.assertEqual(never_dearer(one, one + Bids(3, [(-1, (3, 3, 3)), (1, (3, 3, 0))])), (0, 0, 5))
        self.assertEqual(same_prices(one, one + Bids(3, [(1, (1, 0, 0))])), (0, 0, 6))
        self.assertEqual(same_prices(one + Bids(3, [(1, (1, 0, 0))]), one), (0, 0, 6))

    def test_another_buyer(self):
        rng = random.Random(78)
        for _ in range(60):
            kinds = rng.choice([1, 2, 2, 3])
            one, more = random_buyer(rng, kinds, 3), random_bids(rng, kinds, 1, 3, below=0)
            if wants(one + more) <= 6:
                self.assertIsNone(self.check(one, one + more)[0])
                self.check(one + more, one)

    def test_by_all_supplies(self):
        rng = random.Random(79)
        kept = 0
        for _ in range(80):
            kinds = rng.choice([1, 2, 2, 3])
            one, other = random_buyer(rng, kinds, 3), random_buyer(rng, kinds, 3)
            if max(wants(one), wants(other)) <= 4:
                kept += self.check(one, other)[0] is None
        self.assertTrue(kept > 5)

    def test_sizes(self):
        one = Bids(2, [(1, (n + 3, 20 - n)) for n in range(11)] + [(4, (2, (1, 1000)))])
        self.assertIsNone(never_dearer(one, one + Bids(2, [(1, (0, (1, 1000)))])))
        self.assertIsNone(same_prices(one, one))
        one = Bids(3, [(1, (n + 3, 20 - n, 7 * n % 5)) for n in range(6)])
        self.assertIsNone(never_dearer(one, one + Bids(3, [(1, (0, (1, 1000), 0))])))
        self.assertIsNone(same_prices(one, one))

    def test_free_from(self):
        self.assertEqual(free_from(Bids(3, [])), (0, 0, 0))
        self.assertEqual(free_from(Bids(3, [(2, (3, 0, 1)), (200, (0, 0, (1, 1000)))])), (2, 0, 202))
        rng = random.Random(80)
        for _ in range(60):
            bids = random_buyer(rng, rng.choice([1, 2, 3]), 3)
            prices = least_by(bids)
            free = []
            for kind in range(bids.kinds):
                free.append(max([x[kind] + 1 for x in prices if prices[x][kind] > 0], default=0))
            self.assertEqual(free_from(bids), tuple(free))
            for supply in random.Random(1).sample(sorted(prices), min(5, len(prices))):
                self.assertEqual(at(bids, supply), at(bids, clamped(supply, free)))
                self.assertEqual(at(bids, supply), pairs(prices[supply]))

    def test_errors(self):
        for call in (never_dearer, same_prices):
            self.fails(Unlike, ["kinds"], call, BARRED, Bids(1, []))
            self.fails(Unlike, ["kinds"], call, Bids(3, []), BARRED)
            self.fails(NoBuyer, [], call, BARRED, ONE)
            self.fails(NoBuyer, [], call, ONE, BARRED)
        self.fails(NoBuyer, [], free_from, BARRED)


if __name__ == "__main__":
    unittest.main()
