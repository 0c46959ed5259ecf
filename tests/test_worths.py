"""Points 32 to 39: worths, tables, the exchange rule, lists of tables."""

import itertools
import random
import unittest
from fractions import Fraction

from allbids.bids import Bids, wants
from allbids.errors import BadNumber, BadRow, NoBuyer, TooMany
from allbids.gains import gain
from allbids.walls import is_buyer
from allbids.worths import (Breach, Worths, exchange, falls, list_of, table_of, worth, worth_prices)

from oracles import BARRED, MENDED, box_by, fraction, fractions, pair, random_bids, random_lists, worth_by

WRONG_BUNDLES = [None, 5, "11", (), (1,), (1, 1, 1), (1, -1), (1, True), (1, (1, 1)), (1, 1.0), (1, None),
                 {0: 1, 1: 1}]


def exchanges_by(worths, one, other, kind):
    """The exchange rule for two bundles and a kind, by the words of point 34."""
    def value(bundle):
        return fraction(worths.at(bundle))

    def step(bundle, *moves):
        units = list(bundle)
        for k, move in moves:
            units[k] += move
        return tuple(units)

    have = value(one) + value(other)
    sums = [value(step(one, (kind, -1))) + value(step(other, (kind, 1)))]
    for j in range(len(one)):
        if other[j] > one[j]:
            sums.append(value(step(one, (kind, -1), (j, 1))) + value(step(other, (kind, 1), (j, -1))))
    return have <= max(sums)


def holds_by(worths):
    bundles = box_by(worths.caps)
    return all(exchanges_by(worths, one, other, kind) for one in bundles for other in bundles
               for kind in range(len(one)) if one[kind] > other[kind])


def within(bundle, caps):
    return tuple(min(units, cap) for units, cap in zip(bundle, caps))


class WorthsOfBuyers(unittest.TestCase):
    def test_worth_by_its_words(self):
        for rng, bids in random_lists(32, 100, below=0.1):
            if not is_buyer(bids):
                continue
            for _ in range(6):
                bundle = tuple(rng.randint(0, 7) for _ in range(bids.kinds))
                self.check_worth(bids, bundle)
                self.assertEqual(fraction(worth(bids, list(bundle))), worth_by(bids, bundle))

    def check_worth(self, bids, bundle):
        """The gain and the cost at the told prices come to the worth."""
        prices = worth_prices(bids, bundle)
        self.assertEqual(prices, tuple(pair(fraction(price)) for price in prices))
        self.assertTrue(all(price[0] >= 0 for price in prices))
        cost = sum(units * price for units, price in zip(bundle, fractions(prices)))
        self.assertEqual(fraction(worth(bids, bundle)), fraction(gain(bids, prices)) + cost)

    def test_worth_of_buyers_with_weights_below_zero(self):
        self.assertIs(is_buyer(MENDED), True)
        for bundle in itertools.product(range(4), repeat=2):
            self.assertEqual(fraction(worth(MENDED, bundle)), worth_by(MENDED, bundle))
            self.check_worth(MENDED, bundle)

    def test_worth_of_plain_bids(self):
        bids = Bids(1, [(2, (5,)), (1, (3,)), (3, ((1, 2),))])
        told = [worth(bids, (units,)) for units in range(9)]
        self.assertEqual(told, [(0, 1), (5, 1), (10, 1), (13, 1), (27, 2), (14, 1), (29, 2), (29, 2), (29, 2)])
        self.assertEqual(worth(Bids(3, []), (3, 0, 60)), (0, 1))
        self.assertEqual(worth(Bids(2, [(1, (4, 3))]), [1, 1]), (4, 1))
        self.assertEqual(worth(Bids(2, [(2, (4, 3))]), (1, 1)), (7, 1))
        self.assertEqual(worth(Bids(2, [(2, (4, 3))]), (0, 0)), (0, 1))
        self.assertEqual(worth(Bids(2, [(2, (4, 0))]), (0, 60)), (0, 1))

    def test_great_bundles_and_lists(self):
        rng = random.Random(36)
        for kinds in [1, 2, 3]:
            for _ in range(4):
                rows = [(rng.randint(1, 200), [(rng.randint(0, 10 ** 9), 1000) for _ in range(kinds)])
                        for _ in range(12)]
                bids = Bids(kinds, rows)
                for bundle in [(60,) * kinds, (0,) * kinds, (3000,) * kinds,
                               tuple(rng.randint(0, 60) for _ in range(kinds))]:
                    self.check_worth(bids, bundle)
                    self.check_least(bids, bundle)
                self.assertEqual(worth(bids, (0,) * kinds), (0, 1))
                self.assertEqual(worth(bids, (3000,) * kinds), gain(bids, (0,) * kinds))

    def check_least(self, bids, bundle):
        """No prices near, along a set of kinds, are better: so none are, as the sum is convex along these."""
        prices = fractions(worth_prices(bids, bundle))
        step = Fraction(1, 10 ** 7)
        for moves in itertools.product([0, 1, -1], repeat=bids.kinds):
            beside = [max(Fraction(0), price + step * move) for price, move in zip(prices, moves)]
            cost = sum(units * price for units, price in zip(bundle, beside))
            self.assertTrue(fraction(gain(bids, [pair(price) for price in beside])) + cost
                            >= fraction(worth(bids, bundle)))

    def test_errors(self):
        for ask in [worth, worth_prices]:
            with self.assertRaises(NoBuyer):
                ask(BARRED, None)
            with self.assertRaises(NoBuyer):
                ask(BARRED, (0, 0))
            for bundle in WRONG_BUNDLES:
                with self.assertRaises(BadRow, msg=bundle) as caught:
                    ask(MENDED, bundle)
                self.assertIs(caught.exception.row, bundle)

    def test_equal_calls_tell_the_same(self):
        self.assertEqual(worth_prices(MENDED, (1, 1)), worth_prices(MENDED, [1, 1]))


class Tables(unittest.TestCase):
    def test_a_table(self):
        worths = Worths([1, 2], [0, (2, 4), [3, 3], 4, (-10, 4), 0])
        self.assertEqual(worths.caps, (1, 2))
        self.assertEqual(worths.numbers, ((0, 1), (1, 2), (1, 1), (4, 1), (-5, 2), (0, 1)))
        told = [worths.at(bundle) for bundle in [(0, 0), (0, 1), (0, 2), (1, 0), [1, 1], [1, 2]]]
        self.assertEqual(tuple(told), worths.numbers)
        three = Worths((1, 1, 1), list(range(8)))
        self.assertEqual([three.at(bundle)[0] for bundle in itertools.product((0, 1), repeat=3)], list(range(8)))
        self.assertEqual(Worths((0,), (7,)).at((0,)), (7, 1))

    def test_equal(self):
        one = Worths((1,), (0, (1, 2)))
        self.assertTrue(one == Worths([1], [(0, 3), [2, 4]]))
        self.assertFalse(one != Worths([1], [(0, 3), [2, 4]]))
        self.assertFalse(one == Worths((1,), (0, 1)))
        self.assertFalse(Worths((1, 0), (0, 1)) == Worths((0, 1), (0, 1)))
        for value in [None, 5, (one.caps, one.numbers), object()]:
            self.assertFalse(one == value)

    def test_what_it_is_given_is_copied(self):
        caps, number = [1], [1, 2]
        numbers = [0, number]
        worths = Worths(caps, numbers)
        caps[0], number[0], numbers[0] = 5, 7, 9
        self.assertEqual((worths.caps, worths.numbers), ((1,), ((0, 1), (1, 2))))

    def test_caps(self):
        for caps in [None, 5, "1", (), (1, 1, 1, 1), (-1,), (1, -1), (True,), (1.0,), (None,), ((1, 1),), {0: 1}]:
            with self.assertRaises(BadRow, msg=caps) as caught:
                Worths(caps, [None])
            self.assertIs(caught.exception.row, caps)

    def test_sizes(self):
        for caps in [(125,), (10, 11), (4, 4, 5), (10 ** 9, 0, 0), (10 ** 9,) * 3]:
            with self.assertRaises(TooMany) as caught:
                Worths(caps, [None])
            self.assertEqual((caught.exception.what, caught.exception.limit), ("bundles", 125))
        for caps in [(124,), (4, 24), (4, 4, 4), (0, 0, 124)]:
            self.assertEqual(len(Worths(caps, (1,) * 125).numbers), 125)
        for caps, many in [((1,), 0), ((1,), 1), ((1,), 3), ((4, 4, 4), 124), ((0, 0), 2)]:
            with self.assertRaises(BadNumber) as caught:
                Worths(caps, [None] * many)
            self.assertEqual((caught.exception.what, caught.exception.number), ("numbers", many))

    def test_numbers(self):
        for value in [None, "1", True, (1, 0), (1,), 1.5, [1, 2, 3]]:
            with self.assertRaises(BadNumber) as caught:
                Worths((3,), [0, 1, value, None])
            self.assertEqual(caught.exception.what, "worth")
            self.assertIs(caught.exception.number, value)

    def test_what_is_no_bundle_of_the_box(self):
        worths = Worths((1, 2), (0,) * 6)
        for bundle in WRONG_BUNDLES + [(2, 0), (0, 3), (10 ** 9, 10 ** 9)]:
            with self.assertRaises(BadRow, msg=bundle) as caught:
                worths.at(bundle)
            self.assertIs(caught.exception.row, bundle)

    def test_table_of(self):
        for rng, bids in random_lists(38, 60, below=0.1):
            if is_buyer(bids):
                caps = tuple(rng.randint(0, 3) for _ in range(bids.kinds))
                table = table_of(bids, list(caps))
                self.assertIsInstance(table, Worths)
                self.assertEqual(table.caps, caps)
                for bundle in box_by(caps):
                    self.assertEqual(table.at(bundle), worth(bids, bundle))

    def test_errors_of_table_of(self):
        with self.assertRaises(NoBuyer):
            table_of(BARRED, None)
        for caps in WRONG_BUNDLES:
            with self.assertRaises(BadRow, msg=caps) as caught:
                table_of(MENDED, caps)
            self.assertIs(caught.exception.row, caps)
        for caps in [(125, 0), (11, 10), [10 ** 9, 10 ** 9]]:
            with self.assertRaises(TooMany) as caught:
                table_of(MENDED, caps)
            self.assertEqual((caught.exception.what, caught.exception.limit), ("bundles", 125))
        self.assertEqual(table_of(MENDED, (0, 0)), Worths((0, 0), (0,)))
        self.assertEqual(table_of(MENDED, (4, 24)).at((4, 24)), worth(MENDED, (4, 24)))


class Rules(unittest.TestCase):
    def test_falls(self):
        self.assertIsNone(falls(Worths((2,), (0, 3, 3))))
        self.assertIsNone(falls(Worths((0, 0, 0), (-5,))))
        self.assertEqual(falls(Worths((2,), (0, (3, 2), (7, 5)))), ((1,), 0))
        self.assertEqual(falls(Worths((1, 1), (5, 5, 4, 5))), ((0, 0), 0))
        self.assertEqual(falls(Worths((1, 1), (5, 4, 4, 5))), ((0, 0), 0))
        self.assertEqual(falls(Worths((1, 1), (0, 3, 5, 2))), ((0, 1), 0))
        self.assertEqual(falls(Worths((1, 1), (0, 1, 5, 2))), ((1, 0), 1))
        self.assertEqual(falls(Worths((0, 2), (0, 1, (99, 100)))), ((0, 1), 1))

    def test_falls_by_its_words(self):
        rng = random.Random(33)
        for _ in range(200):
            caps = tuple(rng.randint(0, 2) for _ in range(rng.choice([1, 2, 3])))
            steps = [sum(bundle) * 2 + (rng.randint(-3, 0) if rng.random() < 0.2 else 0) for bundle in box_by(caps)]
            table = dict(zip(box_by(caps), steps))
            wanted = None
            for bundle in reversed(box_by(caps)):
                for kind in reversed(range(len(caps))):
                    more = bundle[:kind] + (bundle[kind] + 1,) + bundle[kind + 1:]
                    if more in table and table[more] < table[bundle]:
                        wanted = (bundle, kind)
            self.assertEqual(falls(Worths(caps, steps)), wanted)

    def check_exchange(self, worths):
        breach = exchange(worths)
        if breach is None:
            self.assertTrue(holds_by(worths))
            return True
        self.assertIsInstance(breach, Breach)
        for bundle in [breach.one, breach.other]:
            self.assertIsInstance(bundle, tuple)
            worths.at(bundle)
        self.assertTrue(breach.one[breach.kind] > breach.other[breach.kind])
        self.assertFalse(exchanges_by(worths, breach.one, breach.other, breach.kind))
        return False

    def test_tables_of_buyers(self):
        for rng, bids in random_lists(34, 60, below=0.1):
            if is_buyer(bids):
                table = table_of(bids, [rng.randint(0, 2) for _ in range(bids.kinds)])
                self.assertIsNone(falls(table))
                self.assertIsNone(exchange(table))

    def test_tables_with_one_number_changed(self):
        count = {True: 0, False: 0}
        for rng, bids in random_lists(35, 120, below=0):
            table = table_of(bids, [rng.randint(1, 2) for _ in range(bids.kinds)])
            numbers = list(table.numbers)
            place = rng.randrange(len(numbers))
            numbers[place] = pair(fraction(numbers[place]) + Fraction(rng.choice([-1, 1]), rng.choice([1, 3, 1000])))
            count[self.check_exchange(Worths(table.caps, numbers))] += 1
        self.assertTrue(min(count.values()) > 10)

    def test_tables_of_any_numbers(self):
        rng = random.Random(37)
        for _ in range(150):
            caps = tuple(rng.randint(0, 2) for _ in range(rng.choice([1, 2, 3])))
            self.check_exchange(Worths(caps, [rng.randint(-1, 2) for _ in box_by(caps)]))

    def test_kinds_that_go_together(self):
        breach = exchange(Worths((1, 1), (0, 0, 0, 1)))
        self.assertEqual({breach.one, breach.other}, {(1, 1), (0, 0)})
        self.assertIsNone(exchange(Worths((1, 1), (0, 1, 1, 1))))
        self.assertIsNone(exchange(Worths((1, 1, 1), (9,) * 8)))
        self.assertIsNotNone(exchange(Worths((2,), (0, 1, 3))))

    def test_a_full_box(self):
        rng = random.Random(40)
        bids = random_bids(rng, 3, 12, 10 ** 6, bottoms=(1, 1000), below=0)
        table = table_of(bids, (4, 4, 4))
        self.assertIsNone(exchange(table))
        numbers = list(table.numbers)
        top, bottom = numbers[124]
        numbers[124] = (top * 1000 + 999999 * 1000 * bottom, bottom * 1000)
        breach = exchange(Worths((4, 4, 4), numbers))
        self.assertFalse(exchanges_by(Worths((4, 4, 4), numbers), breach.one, breach.other, breach.kind))

    def test_breach_keeps_what_it_is_given(self):
        made = Breach([1, 0], (0, 1), 0)
        self.assertEqual((made.one, made.other, made.kind), ((1, 0), (0, 1), 0))


class Lists(unittest.TestCase):
    def check_list(self, table):
        """The told list is a buyer with the worths of the table, also outside of the box."""
        found = list_of(table)
        self.assertIsInstance(found, Bids)
        self.assertEqual(found.kinds, len(table.caps))
        self.assertIs(is_buyer(found), True)
        for bundle in box_by([cap + 1 for cap in table.caps]):
            self.assertEqual(worth(found, bundle), table.at(within(bundle, table.caps)))
        return found

    def test_a_box_as_great_as_what_is_wanted_leads_back(self):
        for rng, bids in random_lists(41, 80, below=0.1):
            if is_buyer(bids) and (wants(bids) + 1) ** bids.kinds <= 125:
                caps = (wants(bids),) * bids.kinds
                self.assertEqual(list_of(table_of(bids, caps)), bids)

    def test_lower_caps_may_ask_for_weights_below_zero(self):
        below = 0
        rng = random.Random(42)
        for _ in range(80):
            bids = random_bids(rng, rng.choice([2, 2, 3]), 3, 9, bottoms=(1, 2, 3), below=0)
            table = table_of(bids, [rng.choice([0, 1, 1, 2, 2]) for _ in range(bids.kinds)])
            found = self.check_list(table)
            below += any(weight < 0 for weight, _ in found.rows)
            many = wants(found)
            if (many + 1) ** bids.kinds <= 125:
                self.assertEqual(list_of(table_of(found, (many,) * bids.kinds)), found)
        self.assertTrue(below > 10)

    def test_the_list_with_a_weight_below_zero(self):
        self.assertEqual(list_of(Worths((1, 1), (0, 4, 3, 6))), Bids(2, [(1, (0, 3)), (1, (2, 0)), (-1, (2, 3)),
                                                                         (1, (3, 4))]))
        self.assertEqual(list_of(table_of(MENDED, (2, 2))), MENDED)
        self.assertEqual(list_of(table_of(MENDED, (1, 1))), MENDED)

    def test_small_lists(self):
        self.assertEqual(list_of(Worths((0, 0, 0), (0,))), Bids(3, []))
        self.assertEqual(list_of(Worths((3,), (0, 5, 9, (19, 2)))), Bids(1, [(1, (5,)), (1, (4,)), (1, ((1, 2),))]))
        self.assertEqual(list_of(Worths((1, 0), (0, 5))), Bids(2, [(1, (5, 0))]))
        self.assertEqual(list_of(Worths((1, 1), (0, 1, 2, 2))), Bids(2, [(1, (2, 1))]))
        self.assertEqual(list_of(Worths((1, 1), (0, 1, 2, 3))), Bids(2, [(1, (2, 0)), (1, (0, 1))]))
        self.assertEqual(list_of(Worths((2, 2), (0,) * 9)), Bids(2, []))

    def test_full_boxes(self):
        rng = random.Random(43)
        for caps in [(4, 4, 4), (10, 10), (124,), (1, 1, 30), (24, 4)]:
            bids = random_bids(rng, len(caps), 12, 10 ** 6, bottoms=(1, 8, 1000), below=0)
            table = table_of(5 * bids if len(caps) == 1 else bids, caps)
            found = list_of(table)
            self.assertIs(is_buyer(found), True)
            self.assertEqual(table_of(found, caps), table)

    def test_no_lists(self):
        for caps, numbers in [((0,), (1,)), ((1, 1), (1, 2, 2, 3)), ((0, 0, 0), ((-1, 1000),)),
                              ((2,), (0, 3, 2)), ((1, 1), (0, 2, 2, 1)), ((2,), (0, 1, 3)),
                              ((1, 1), (0, 0, 0, 1)), ((1, 1), (0, 1, 1, (2001, 1000))), ((1,), (0, -1))]:
            with self.assertRaises(NoBuyer, msg=(caps, numbers)):
                list_of(Worths(caps, numbers))

    def test_tables_of_any_numbers(self):
        rng = random.Random(44)
        count = {True: 0, False: 0}
        for _ in range(400):
            caps = tuple(rng.randint(0, 2) for _ in range(rng.choice([1, 2, 3])))
            numbers = [sum(bundle) * 2 - rng.choice([0, 0, 0, 1, 2]) for bundle in box_by(caps)]
            worths = Worths(caps, numbers)
            rule = numbers[0] == 0 and falls(worths) is None and holds_by(worths)
            count[rule] += 1
            if rule:
                self.check_list(worths)
            else:
                with self.assertRaises(NoBuyer):
                    list_of(worths)
        self.assertTrue(min(count.values()) > 20)


if __name__ == "__main__":
    unittest.main()
