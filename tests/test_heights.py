"""Points 78 to 80: worths and least prices when one number of a bid goes up."""

import random
import unittest
from fractions import Fraction

from allbids.bids import Bids
from allbids.errors import BadNumber, BadRow, NoBuyer
from allbids.heights import price_heights, worth_heights
from allbids.markets import Market, least_prices
from allbids.worths import worth

from oracles import BARRED, MENDED, fraction, pair, random_buyer

ONE = Bids(2, [(2, (3, 0)), (1, (0, (1, 2)))])
WRONG_BIDS = [None, 5, "11", (), (1,), (1, (1, 1), 1), (0, (1, 1)), (-1, (1, 1)), (True, (1, 1)), ((1, 1), (1, 1)),
              (1, (1,)), (1, (1, 1, 1)), (1, (1, -1)), (1, (1, (1, 0))), (1, (1, None)), (1, "11"), (1, None), (1, 3),
              (1.0, (1, 1)), (None, (1, 1)), {1: 1, 2: (1, 1)}]
WRONG_BUNDLES = [None, 5, "11", (), (1,), (1, 1, 1), (1, -1), (1, True), (1, (1, 1)), (1, 1.0), (1, None)]
NO_KINDS = [-1, 2, True, None, "0", (0, 1), 1.0]


def lifted(bids, bid, kind, height):
    """The list at a height."""
    numbers = [pair(height) if k == kind else number for k, number in enumerate(bid[1])]
    return bids + Bids(bids.kinds, [(bid[0], numbers)])


def value_at(pieces, height):
    start, value, slope = [row for row in pieces if fraction(row[0]) <= height][-1]
    return fraction(value) + slope * (height - fraction(start))


class Heights(unittest.TestCase):
    def check_form(self, pieces):
        self.assertIsInstance(pieces, tuple)
        self.assertEqual(pieces[0][0], (0, 1))
        for row in pieces:
            self.assertEqual([value.__class__ for value in row], [tuple, tuple, int])
            self.assertEqual([pair(fraction(row[0])), pair(fraction(row[1]))], list(row[:2]))
        for row, after in zip(pieces, pieces[1:]):
            self.assertTrue(fraction(row[0]) < fraction(after[0]))
            self.assertNotEqual(row[2], after[2])

    def check(self, bids, bid, kind, supply, other, heights):
        worths = worth_heights(bids, bid, kind, supply)
        prices = price_heights(bids, bid, kind, supply, other)
        self.check_form(worths)
        self.check_form(prices)
        turns = [fraction(row[0]) for row in worths + prices]
        for height in list(heights) + turns + [turn + Fraction(1, 7) for turn in turns] + [10 ** 7]:
            there = lifted(bids, bid, kind, height)
            self.assertEqual(value_at(worths, height), fraction(worth(there, supply)))
            self.assertEqual(value_at(prices, height), fraction(least_prices(Market([there], supply))[other]))

    def test_told(self):
        """One unit goes to the bid with the greatest number."""
        bids = Bids(1, [(1, (5,)), (1, (3,))])
        self.assertEqual(worth_heights(bids, (1, (0,)), 0, (1,)), (((0, 1), (5, 1), 0), ((5, 1), (5, 1), 1)))
        self.assertEqual(worth_heights(bids, [1, [7]], 0, [2]), (((0, 1), (8, 1), 0), ((3, 1), (8, 1), 1)))
        self.assertEqual(worth_heights(bids, (3, (0,)), 0, (2,)),
                         (((0, 1), (8, 1), 0), ((3, 1), (8, 1), 1), ((5, 1), (10, 1), 2)))
        self.assertEqual(worth_heights(bids, (3, (0,)), 0, (3,)),
                         (((0, 1), (8, 1), 1), ((3, 1), (11, 1), 2), ((5, 1), (15, 1), 3)))
        self.assertEqual(worth_heights(bids, (1, (0,)), 0, (0,)), (((0, 1), (0, 1), 0),))
        self.assertEqual(price_heights(bids, (1, (0,)), 0, (1,), 0),
                         (((0, 1), (3, 1), 0), ((3, 1), (3, 1), 1), ((5, 1), (5, 1), 0)))
        self.assertEqual(price_heights(bids, (1, (0,)), 0, (2,), 0),
                         (((0, 1), (0, 1), 1), ((3, 1), (3, 1), 0)))
        self.assertEqual(price_heights(bids, (1, (0,)), 0, (3,), 0), (((0, 1), (0, 1), 0),))

    def test_no_bids(self):
        self.assertEqual(worth_heights(Bids(2, []), (2, (0, 0)), 1, (5, 3)), (((0, 1), (0, 1), 2),))
        self.assertEqual(worth_heights(Bids(2, []), (1, ((1, 2), 9)), 1, (5, 3)),
                         (((0, 1), (1, 2), 0), ((1, 2), (1, 2), 1)))
        self.assertEqual(price_heights(Bids(2, []), (2, (0, 0)), 1, (5, 3), 1), (((0, 1), (0, 1), 0),))
        self.assertEqual(price_heights(Bids(2, []), (2, (0, 0)), 1, (5, 1), 1), (((0, 1), (0, 1), 1),))

    def test_falling_price(self):
        """The price of one kind falls when a bid leaves it for another one."""
        bids = Bids(2, [(1, (1, 0))])
        pieces = price_heights(bids, (1, (3, 0)), 1, (1, 1), 0)
        self.assertEqual(pieces, (((0, 1), (1, 1), 0), ((2, 1), (1, 1), -1), ((3, 1), (0, 1), 0)))

    def test_no_least_height(self):
        """Lines that meet at one height make one bend."""
        bids = Bids(1, [(3, ((7, 3),))])
        self.assertEqual(worth_heights(bids, (3, (0,)), 0, (3,)), (((0, 1), (7, 1), 0), ((7, 3), (7, 1), 3)))

    def test_by_lists_at_heights(self):
        rng = random.Random(81)
        for _ in range(150):
            kinds = rng.choice([1, 2, 3])
            bids = random_buyer(rng, kinds, rng.choice([2, 4, 6]))
            bid = (rng.randint(1, 6), [(rng.randint(0, 10), rng.choice([1, 2])) for _ in range(kinds)])
            supply = tuple(rng.randint(0, 3) for _ in range(kinds))
            heights = [Fraction(rng.randint(0, 40), rng.choice([1, 2, 3, 5])) for _ in range(4)]
            self.check(bids, bid, rng.randrange(kinds), supply, rng.randrange(kinds), heights)

    def test_great_weights_and_supplies(self):
        bids = Bids(3, [(200, (5, 4, (1, 1000))), (100, (3, 3, 999999)), (150, (0, 2, 0)), (20, ((1, 3), 0, 0)),
                        (25, ((1, 3), 1, 1))])
        self.check(bids, (6, (2, (7, 8), 3)), 0, (60, 60, 60), 1, range(0, 20))
        self.check(bids, (6, (2, (7, 8), 3)), 2, (300, 60, 0), 2, range(0, 20))
        self.check(MENDED, (6, (9, 9)), 1, (2, 0), 1, range(0, 9))

    def test_arguments_are_not_changed(self):
        bid, bundle = [1, [2, 3]], [1, 1]
        self.assertEqual(worth_heights(ONE, bid, 0, bundle), worth_heights(ONE, (1, (7, 3)), 0, (1, 1)))
        self.assertEqual(price_heights(ONE, bid, 0, bundle, 1), price_heights(ONE, (1, (7, 3)), 0, (1, 1), 1))
        self.assertEqual((bid, bundle), ([1, [2, 3]], [1, 1]))

    def fails(self, error, values, call, *arguments):
        with self.assertRaises(error) as caught:
            call(*arguments)
        self.assertIs(caught.exception.__class__, error)
        fields = list(vars(caught.exception).values())
        self.assertEqual(len(fields), len(values))
        for field, value in zip(fields, values):
            self.assertTrue(field is value or field == value and field.__class__ is value.__class__, fields)

    def test_errors(self):
        good = (1, (3, 4))
        for call, more in ((worth_heights, ()), (price_heights, ("x",))):
            for wrong in WRONG_BIDS:
                self.fails(BadRow, [wrong], call, ONE, wrong, "x", "x", *more)
                self.fails(NoBuyer, [], call, BARRED, wrong, "x", "x", *more)
            for wrong in NO_KINDS:
                self.fails(BadNumber, ["kind", wrong], call, ONE, good, wrong, "x", *more)
            for wrong in WRONG_BUNDLES:
                self.fails(BadRow, [wrong], call, ONE, good, 1, wrong, *more)
        for wrong in NO_KINDS:
            self.fails(BadNumber, ["other", wrong], price_heights, ONE, good, 1, (1, 1), wrong)


if __name__ == "__main__":
    unittest.main()
