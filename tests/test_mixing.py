"""Points 49 to 55: mixtures of lists that are buyers, and what shows that no others are."""

import itertools
import random
import unittest
from fractions import Fraction

from allbids.bids import Bids
from allbids.errors import TooMany, Unlike
from allbids.mixing import (Mending, NoMending, NoRange, Range, Reason, buyer_range, is_mending, is_range, mended)
from allbids.walls import is_buyer, walls, weight_at

from oracles import BARRED, MENDED, fraction, fractions, mended_list, pair, pairs, random_bids, random_buyer

EMPTY = Bids(2, [])


def is_buyer_at(lists, factors):
    """Whether the sum of the first list and of factors times the others is a buyer."""
    bottom = 1
    for factor in factors:
        bottom *= factor.denominator
    total = bottom * lists[0]
    for factor, bids in zip(factors, lists[1:]):
        total = total + int(factor * bottom) * bids
    return is_buyer(total)


def random_two(rng):
    kinds = rng.choice([1, 2, 2, 3])
    one = rng.choice([random_buyer(rng, kinds), random_bids(rng, kinds, rng.randint(0, 3), 3)])
    other = rng.choice([random_buyer(rng, kinds), random_bids(rng, kinds, rng.randint(0, 3), 3)])
    turned = list(one.rows)
    if turned and rng.random() < 0.4:
        weight, numbers = turned[rng.randrange(len(turned))]
        other = Bids(kinds, [(-weight * rng.randint(1, 2), numbers)]) + (other if rng.random() < 0.5 else -one)
    return one, other


class Checks(unittest.TestCase):
    def check_ratio(self, value):
        self.assertEqual(value, pair(fraction(value)))
        self.assertIsInstance(value, tuple)

    def check_reason(self, reason, lists):
        """It is plain on the wall for all lists, and tells their weights there."""
        self.assertIsInstance(reason, Reason)
        self.assertTrue(any(reason.wall in walls(bids) for bids in lists))
        self.assertEqual(reason.place, pairs(fractions(reason.place)))
        self.assertEqual(reason.numbers, tuple(weight_at(bids, reason.wall, reason.place) for bids in lists))

    def check_range(self, one, other):
        found = buyer_range(one, other)
        self.assertIs(is_range(one, other, found), True)
        if isinstance(found, NoRange):
            self.check_no_range(found, one, other)
            return None
        self.assertIsInstance(found, Range)
        step = Fraction(1, 10 ** 6)
        for end, reason, sign in [(found.low, found.below, 1), (found.high, found.above, -1)]:
            if end is None:
                self.assertIsNone(reason)
                self.assertTrue(is_buyer_at([one, other], [Fraction(-sign * 10 ** 6)]))
                continue
            self.check_ratio(end)
            self.check_reason(reason, [one, other])
            u, v = reason.numbers
            self.assertTrue(v * sign > 0)
            self.assertEqual(fraction(end), Fraction(-u, v))
            self.assertTrue(is_buyer_at([one, other], [fraction(end)]))
            self.assertFalse(is_buyer_at([one, other], [fraction(end) - sign * step]))
        return found

    def check_no_range(self, found, one, other):
        self.assertIsInstance(found.reasons, tuple)
        self.assertIn(len(found.reasons), (1, 2))
        for reason in found.reasons:
            self.check_reason(reason, [one, other])
        numbers = [reason.numbers for reason in found.reasons]
        if len(numbers) == 1:
            self.assertTrue(numbers[0][0] < 0 and numbers[0][1] == 0)
        else:
            (u, v), (x, y) = numbers
            self.assertTrue(v * y < 0)
            low, high = (Fraction(-u, v), Fraction(-x, y)) if v > 0 else (Fraction(-x, y), Fraction(-u, v))
            self.assertTrue(low > high)


class Ranges(Checks):
    def test_random_lists(self):
        rng = random.Random(49)
        count = {"none": 0, "one": 0, "two": 0, "low": 0, "high": 0, "both": 0, "all": 0}
        for _ in range(250):
            one, other = random_two(rng)
            found = self.check_range(one, other)
            if found is None:
                count["none"] += 1
                count[["one", "two"][len(buyer_range(one, other).reasons) - 1]] += 1
                for t in [-5, -2, -1, Fraction(-1, 2), 0, Fraction(1, 3), 1, 2, 7]:
                    self.assertFalse(is_buyer_at([one, other], [Fraction(t)]))
            else:
                ends = (found.low is None, found.high is None)
                count[{(True, True): "all", (True, False): "high", (False, True): "low"}.get(ends, "both")] += 1
        self.assertTrue(min(count.values()) > 1, count)

    def test_a_weight_turned(self):
        bids = Bids(2, [(2, (3, 1)), (1, (1, 4))])
        for (weight, numbers), ends in zip(bids.rows, [((-1, 1), (1, 1)), ((-1, 1), (1, 1))]):
            found = self.check_range(bids, Bids(2, [(-weight, numbers)]))
            self.assertEqual((found.low, found.high), (None, (1, 1)))
            found = self.check_range(bids, Bids(2, [(weight, numbers)]))
            self.assertEqual((found.low, found.high), ((-1, 1), None))
        found = self.check_range(Bids(1, [(3, (5,))]), Bids(1, [(-2, (5,))]))
        self.assertEqual((found.low, found.high), (None, (3, 2)))

    def test_a_list_and_its_opposite(self):
        for bids in [MENDED, Bids(1, [(3, (2,))]), Bids(3, [(1, (1, 2, 3))])]:
            found = self.check_range(bids, -bids)
            self.assertEqual((found.low, found.high), (None, (1, 1)))
            found = self.check_range(-bids, bids)
            self.assertEqual((found.low, found.high, found.above), ((1, 1), None, None))
        found = self.check_range(BARRED, -BARRED)
        self.assertEqual((found.low, found.high), ((1, 1), (1, 1)))

    def test_both_ends(self):
        one, other = Bids(1, [(3, (5,)), (2, (7,))]), Bids(1, [(2, (5,)), (-3, (7,))])
        found = self.check_range(one, other)
        self.assertEqual((found.low, found.high), ((-3, 2), (2, 3)))
        self.assertEqual((found.below.wall, found.above.wall), (("at", 0, (5, 1)), ("at", 0, (7, 1))))
        self.assertEqual((found.below.numbers, found.above.numbers), ((3, 2), (2, -3)))
        self.assertEqual((found.below.place, found.above.place), (((5, 1),), ((7, 1),)))

    def test_common_walls(self):
        """The weights on the common wall differ from cell to cell."""
        one = Bids(2, [(3, (4, 2)), (2, (4, 3))])
        other = Bids(2, [(-1, (4, 2)), (1, (4, 3))])
        found = self.check_range(one, other)
        self.assertEqual((found.low, found.high), ((-2, 1), (3, 1)))
        found = self.check_range(one, Bids(2, [(-1, (4, 0)), (1, (0, 3))]))
        self.assertEqual((found.low, found.high), ((0, 1), (0, 1)))
        found = self.check_range(one, Bids(2, [(-1, (4, 2))]))
        self.assertEqual((found.low, found.high), (None, (3, 1)))

    def test_no_ends(self):
        found = self.check_range(MENDED, EMPTY)
        self.assertEqual((found.low, found.high, found.below, found.above), (None,) * 4)
        found = self.check_range(EMPTY, EMPTY)
        self.assertEqual((found.low, found.high, found.below, found.above), (None,) * 4)

    def test_no_t(self):
        found = buyer_range(BARRED, EMPTY)
        self.assertEqual(len(found.reasons), 1)
        self.check_no_range(found, BARRED, EMPTY)
        one, other = Bids(1, [(-3, (5,)), (-2, (7,))]), Bids(1, [(1, (5,)), (-1, (7,))])
        found = buyer_range(one, other)
        self.assertEqual(sorted(reason.numbers for reason in found.reasons), [(-3, 1), (-2, -1)])
        self.check_no_range(found, one, other)
        self.assertIsNone(self.check_range(Bids(1, [(-3, (5,))]), Bids(1, [(1, (6,))])))

    def test_bounds_of_weights(self):
        """With one kind each number has one pair of weights, and so one bound."""
        rng = random.Random(53)
        count = {True: 0, False: 0}
        for _ in range(200):
            many = rng.choice([2, 3])
            pairs_of = [(rng.randint(-9, 9), rng.choice([-5, -4, -3, -1, 1, 2, 3, 4])) for _ in range(many)]
            one = Bids(1, [(u, (k + 1,)) for k, (u, _) in enumerate(pairs_of)])
            other = Bids(1, [(v, (k + 1,)) for k, (_, v) in enumerate(pairs_of)])
            lows = [Fraction(-u, v) for u, v in pairs_of if v > 0]
            highs = [Fraction(-u, v) for u, v in pairs_of if v < 0]
            wanted = not lows or not highs or max(lows) <= min(highs)
            count[wanted] += 1
            found = self.check_range(one, other)
            self.assertIs(found is not None, wanted)
            if wanted:
                self.assertEqual(found.low, pair(max(lows)) if lows else None)
                self.assertEqual(found.high, pair(min(highs)) if highs else None)
        self.assertTrue(min(count.values()) > 40)

    def test_just_one_t(self):
        one, other = Bids(1, [(-3, (5,)), (3, (7,))]), Bids(1, [(1, (5,)), (-1, (7,))])
        found = self.check_range(one, other)
        self.assertEqual((found.low, found.high), ((3, 1), (3, 1)))

    def test_unlike_kinds(self):
        with self.assertRaises(Unlike) as caught:
            buyer_range(Bids(2, []), Bids(3, []))
        self.assertEqual(caught.exception.what, "kinds")
        with self.assertRaises(Unlike) as caught:
            is_range(Bids(2, []), Bids(3, []), None)
        self.assertEqual(caught.exception.what, "kinds")

    def test_sizes(self):
        rng = random.Random(50)
        for kinds, many, top in [(2, 6, 10 ** 6), (2, 6, 3), (3, 4, 10 ** 6), (3, 4, 2)]:
            one = random_bids(rng, kinds, many, top, bottoms=(1, 8, 1000), below=0)
            other = random_bids(rng, kinds, many, top, bottoms=(1, 8, 1000), below=0.5)
            self.check_range(one, other)
            self.check_range(one, one + -2 * Bids(kinds, one.rows[:3]))


class Mendings(Checks):
    def check_sums(self, lists, grounds):
        """The sums of the factors times the numbers of each list."""
        self.assertIsInstance(grounds, tuple)
        sums = [Fraction(0)] * len(lists)
        for factor, reason in grounds:
            self.check_ratio(factor)
            self.assertTrue(factor[0] >= 0)
            self.check_reason(reason, lists)
            sums = [total + fraction(factor) * number for total, number in zip(sums, reason.numbers)]
        return sums

    def check_mended(self, bids, helpers):
        lists = [bids] + list(helpers)
        found = mended(bids, helpers)
        self.assertIs(is_mending(bids, helpers, found), True)
        if isinstance(found, NoMending):
            sums = self.check_sums(lists, found.grounds)
            self.assertTrue(sums[0] < 0)
            self.assertTrue(all(total <= 0 for total in sums[1:]))
            return None
        self.assertIsInstance(found, Mending)
        self.check_ratio(found.number)
        self.assertEqual(found.weights, pairs(fractions(found.weights)))
        self.assertEqual(len(found.weights), len(helpers))
        self.assertTrue(all(weight[0] >= 0 for weight in found.weights))
        self.assertEqual(sum(fractions(found.weights)), fraction(found.number))
        self.assertTrue(is_buyer_at(lists, fractions(found.weights)))
        sums = self.check_sums(lists, found.grounds)
        self.assertEqual(sums[0], -fraction(found.number))
        self.assertTrue(all(total <= 1 for total in sums[1:]))
        return fraction(found.number)

    def test_random_lists(self):
        rng = random.Random(51)
        count = {"none": 0, "zero": 0, "whole": 0, "part": 0}
        for _ in range(200):
            kinds = rng.choice([1, 2, 2, 3])
            bids = random_bids(rng, kinds, rng.randint(0, 4), 3, below=0.6)
            helpers = []
            for _ in range(rng.randint(0, 4)):
                rows = [(rng.randint(-1, 3), numbers) for _, numbers in bids.rows]
                helper = Bids(kinds, rows) + random_bids(rng, kinds, rng.randint(0, 2), 3, below=0.2)
                helpers.append(rng.choice([helper, mended_list(rng, kinds, 3, 3)]))
            number = self.check_mended(bids, helpers)
            if number is None:
                count["none"] += 1
            else:
                count["zero" if number == 0 else "whole" if number.denominator == 1 else "part"] += 1
        self.assertTrue(min(count.values()) > 10, count)

    def test_many_limits(self):
        """With one kind each number has one row of weights; helpers help with some and harm others."""
        rng = random.Random(54)
        count = {True: 0, False: 0}
        for _ in range(150):
            many = rng.randint(3, 6)
            bids = Bids(1, [(rng.randint(-9, 1), (k + 1,)) for k in range(many)])
            helpers = [Bids(1, [(rng.choice([-2, -1, 0, 1, 3, 7]), (k + 1,)) for k in range(many)])
                       for _ in range(rng.randint(3, 6))]
            count[self.check_mended(bids, helpers) is None] += 1
        self.assertTrue(min(count.values()) > 10, count)

    def test_no_helpers(self):
        found = mended(MENDED, ())
        self.assertEqual((found.number, found.weights, found.grounds), ((0, 1), (), ()))
        self.assertIsNone(self.check_mended(BARRED, []))
        self.assertEqual(self.check_mended(EMPTY, ()), 0)

    def test_one_helper(self):
        bids = Bids(1, [(-3, (5,)), (2, (7,))])
        self.assertEqual(self.check_mended(bids, [Bids(1, [(2, (5,))])]), Fraction(3, 2))
        self.assertIsNone(self.check_mended(bids, [Bids(1, [(2, (6,))])]))
        self.assertIsNone(self.check_mended(bids, [Bids(1, [(1, (5,)), (-1, (7,))])]))
        self.assertEqual(self.check_mended(bids, [Bids(1, [(3, (5,)), (-2, (7,))])]), 1)
        self.assertEqual(self.check_mended(MENDED, [BARRED]), 0)

    def test_several_helpers(self):
        bids = Bids(1, [(-3, (5,)), (-2, (7,))])
        one, other, both = Bids(1, [(1, (5,))]), Bids(1, [(1, (7,))]), Bids(1, [(1, (5,)), (1, (7,))])
        self.assertEqual(self.check_mended(bids, [one, other]), 5)
        self.assertEqual(self.check_mended(bids, (one, both)), 3)
        self.assertEqual(self.check_mended(bids, [other, both]), 3)
        self.assertEqual(self.check_mended(bids, [one, other, 3 * both]), 1)
        self.assertEqual(self.check_mended(bids, [one + -other, 2 * other + -one]), 13)
        self.assertIsNone(self.check_mended(bids, [one + -other, other + -one]))
        self.assertEqual(self.check_mended(BARRED, [Bids(2, [(1, (1, 1))]), Bids(2, [(1, (1, 0))])]), 1)

    def test_six_and_seven_helpers(self):
        bids = Bids(2, [(-k, (k, 7 - k)) for k in range(1, 7)])
        helpers = [Bids(2, [(2, (k, 7 - k))]) for k in range(1, 7)]
        self.assertEqual(self.check_mended(bids, helpers), Fraction(21, 2))
        self.assertEqual(self.check_mended(bids, helpers[:5] + [-bids]), 1)
        for many in [7, 12]:
            for told in [mended, lambda one, two: is_mending(one, two, None)]:
                with self.assertRaises(TooMany) as caught:
                    told(bids, (helpers + helpers)[:many])
                self.assertEqual((caught.exception.what, caught.exception.limit), ("helpers", 6))
                with self.assertRaises(Unlike) as caught:
                    told(bids, (helpers + helpers)[:many] + [Bids(3, [])])
                self.assertEqual(caught.exception.what, "kinds")
        with self.assertRaises(Unlike):
            mended(bids, [helpers[0], Bids(1, [])])

    def test_what_nothing_mends(self):
        self.assertIsNone(self.check_mended(BARRED, [MENDED]))
        self.assertIsNone(self.check_mended(BARRED, [EMPTY] * 6))
        self.assertIsNone(self.check_mended(-MENDED, [-MENDED]))
        self.assertEqual(self.check_mended(-MENDED, [MENDED]), 1)

    def test_sizes(self):
        rng = random.Random(52)
        for kinds, parts, top in [(2, [2] * 6, 10 ** 6), (2, [3, 3, 3, 3], 3), (3, [2, 2, 2, 3], 10 ** 6),
                                  (3, [3, 3, 3], 2), (3, [1] * 7, 3)]:
            base = random_bids(rng, kinds, parts[0], top, bottoms=(1, 1000), below=0.9)
            helpers = [Bids(kinds, [(rng.randint(-20, 200), numbers) for _, numbers in base.rows][:many])
                       + random_bids(rng, kinds, max(0, many - len(base.rows)), top, below=0) for many in parts[1:]]
            self.check_mended(200 * base, helpers)


def copied(value, **changes):
    """An object like another one with some attributes changed."""
    names = {Reason: ("wall", "place", "numbers"), Range: ("low", "high", "below", "above"), NoRange: ("reasons",),
             Mending: ("number", "weights", "grounds"), NoMending: ("grounds",)}[type(value)]
    return type(value)(*[changes.get(name, getattr(value, name)) for name in names])


def wrong_ratios(value):
    """Values that are not this ratio, or not as it is told."""
    top, bottom = value
    yield from [(1, 0), (0, 0), (2 * top, 2 * bottom), (top + 1, bottom), (top, bottom + 1), (top, -bottom),
                (-top, -bottom), top, None, True, (), (top,), (top, bottom, 1), str(top), ((top, 1), bottom),
                (top, True), (top, None)]
    if top == 1:
        yield (True, bottom)


def wrong_reasons(reason):
    """Values that are no reasons, or none for the same lists."""
    yield from [None, True, 0, (), (reason.wall, reason.place, reason.numbers), (reason,),
                Range(reason.wall, reason.place, reason.numbers, None)]
    kind = len(reason.place) - 1
    for number in wrong_ratios(reason.place[kind]):
        if number not in [(reason.place[kind][0] + 1, reason.place[kind][1]),
                          (reason.place[kind][0], reason.place[kind][1] + 1)]:
            yield copied(reason, place=reason.place[:kind] + (number,))
    for number in wrong_ratios(reason.wall[-1]):
        yield copied(reason, wall=reason.wall[:-1] + (number,))
    for wall in [("on",) + reason.wall[1:], reason.wall[:-1], reason.wall + (1,), (), None, True, 5,
                 ("at", 9, reason.wall[-1]), ("at", -1, reason.wall[-1]), ("at", True, (1, 1)), ("as", 1, 0, (0, 1)),
                 ("at", 0, (0, 1)), ("at", 0, (-1, 1))]:
        yield copied(reason, wall=wall)
    for place in [reason.place[:-1], reason.place + ((1, 1),), (), None, 5, ((0, 1),) * len(reason.place),
                  ((-1, 1),) * len(reason.place), ((10 ** 30, 1),) * (kind + 1)]:
        if place != reason.place:
            yield copied(reason, place=place)
    for numbers in [reason.numbers[:-1], reason.numbers + (0,), (), None, 5, (reason.numbers,),
                    reason.numbers[:-1] + (reason.numbers[-1] + 1,), (reason.numbers[0] - 1,) + reason.numbers[1:],
                    tuple((number, 1) for number in reason.numbers), (None,) * len(reason.numbers)]:
        yield copied(reason, numbers=numbers)
    for number in (0, 1):
        if number in reason.numbers:
            yield copied(reason, numbers=tuple(bool(n) if n == number else n for n in reason.numbers))


ANY_VALUES = [None, True, False, 0, 1, -5, "", "low", b"x", 1.5, (), (1, 2), [], [None], {}, {1: 2}, object(), Range,
              MENDED, lambda: None, ((None, None), None), float("nan")]


class Judged(unittest.TestCase):
    def all_wrong(self, one, other, values):
        for value in values:
            self.assertIs(is_range(one, other, value), False, vars(value) if hasattr(value, "__dict__") else value)

    def all_wrong_mendings(self, bids, helpers, values):
        for value in values:
            self.assertIs(is_mending(bids, helpers, value), False, vars(value) if hasattr(value, "__dict__") else value)

    def test_any_value(self):
        for one, other in [(MENDED, EMPTY), (BARRED, EMPTY), (EMPTY, EMPTY)]:
            self.all_wrong(one, other, ANY_VALUES)
            self.all_wrong_mendings(one, [other], ANY_VALUES)
            self.all_wrong_mendings(one, [], ANY_VALUES)
            for value in ANY_VALUES[:10]:
                self.all_wrong(one, other, [NoRange(value), NoRange((value,)), Range(value, (1, 1), value, value),
                                            Range(None, None, value, True), Range((1, 1), None, value, None)])
                self.all_wrong_mendings(one, [other], [
                    NoMending(value), NoMending((value,)), NoMending((((1, 1), value),)), Mending(value, value, value),
                    Mending((0, 1), value, ()), Mending((0, 1), (value,), ()), Mending((0, 1), ((0, 1),), (value,))])

    def test_ranges_with_one_thing_changed(self):
        one, other = Bids(2, [(3, (5, 1)), (2, (7, 4))]), Bids(2, [(2, (5, 1)), (-3, (7, 4))])
        found = buyer_range(one, other)
        self.assertEqual((found.low, found.high), ((-3, 2), (2, 3)))
        self.assertIs(is_range(one, other, copied(found)), True)
        self.all_wrong(one, other, [copied(found, low=value) for value in wrong_ratios(found.low)])
        self.all_wrong(one, other, [copied(found, high=value) for value in wrong_ratios(found.high)])
        self.all_wrong(one, other, [copied(found, below=value) for value in wrong_reasons(found.below)])
        self.all_wrong(one, other, [copied(found, above=value) for value in wrong_reasons(found.above)])
        self.all_wrong(one, other, [Range(found.high, found.low, found.above, found.below),
                                    copied(found, below=found.above), copied(found, above=found.below),
                                    copied(found, low=None, below=None), copied(found, high=None, above=None),
                                    NoRange((found.below, found.above)), NoRange((found.below,)),
                                    Mending(found.low, found.high, ()), (found,), [found]])
        self.all_wrong(other, one, [found])

    def test_free_reasons(self):
        """Other prices of the same wall, and other walls, show an end as well."""
        one, other = Bids(2, [(3, (5, 1)), (2, (7, 4))]), Bids(2, [(2, (5, 1)), (-3, (7, 4))])
        found = buyer_range(one, other)
        for wall, place, wanted in [
                (("at", 0, (5, 1)), ((5, 1), (9, 2)), True), (("at", 1, (1, 1)), ((6, 1), (1, 1)), True),
                (("as", 0, 1, (4, 1)), ((9, 2), (1, 2)), True), (("at", 0, (5, 1)), ((5, 1), (4, 1)), False),
                (("at", 0, (5, 1)), ((5, 1), (1, 2)), False), (("at", 0, (5, 1)), ((5, 1), (0, 1)), False)]:
            self.assertIs(is_range(one, other, copied(found, below=Reason(wall, place, (3, 2)))), wanted)
        # Weights that bar less, and walls that are no planes of the lists.
        one, other = one + Bids(2, [(5, (8, 8))]), other + Bids(2, [(1, (8, 8))])
        found = buyer_range(one, other)
        self.assertIs(is_range(one, other, found), True)
        far = Reason(("at", 0, (8, 1)), ((8, 1), (9, 1)), (5, 1))
        self.assertEqual([weight_at(bids, far.wall, far.place) for bids in (one, other)], [5, 1])
        self.assertIs(is_range(one, other, copied(found, below=far)), False)
        self.assertIs(is_range(one, other, copied(found, low=(-5, 1), below=far)), False)
        nowhere = Reason(("at", 0, (9, 1)), ((9, 1), (10, 1)), (0, 0))
        self.assertIs(is_range(one, other, copied(found, below=nowhere)), False)
        # On one wall of three both ends are 0: weights (0, 1) and (0, -1) bar on one side alone.
        one, other = Bids(1, [(1, (9,))]), Bids(1, [(1, (5,)), (-1, (7,))])
        found = buyer_range(one, other)
        self.assertEqual((found.low, found.high), ((0, 1), (0, 1)))
        self.assertIs(is_range(one, other, found), True)
        self.assertIs(is_range(one, other, copied(found, below=found.above)), False)
        self.assertIs(is_range(one, other, copied(found, above=found.below)), False)

    def test_ends_that_are_not_there(self):
        found = buyer_range(MENDED, EMPTY)
        for changes in [{"low": (0, 1)}, {"high": (0, 1)}, {"below": ()}, {"above": True}, {"low": False},
                        {"below": Reason(("at", 0, (1, 1)), ((1, 1), (1, 1)), (0, 0))}]:
            self.all_wrong(MENDED, EMPTY, [copied(found, **changes)])
        found = buyer_range(MENDED, -MENDED)
        self.assertIsNone(found.low)
        self.all_wrong(MENDED, -MENDED, [copied(found, low=(-5, 1)), copied(found, low=(-5, 1), below=found.above)])

    def test_no_ranges_with_one_thing_changed(self):
        found = buyer_range(BARRED, EMPTY)
        reason = found.reasons[0]
        self.assertIs(is_range(BARRED, EMPTY, NoRange((reason,))), True)
        self.assertIs(is_range(BARRED, EMPTY, NoRange((reason, reason))), True)
        self.all_wrong(BARRED, EMPTY, [NoRange((value,)) for value in wrong_reasons(reason)])
        self.all_wrong(BARRED, EMPTY, [NoRange(()), NoRange((reason,) * 3), NoRange(reason), NoRange(None),
                                       NoMending((reason,)), NoRange(((reason,),)), Range(None, None, None, None)])
        one, other = Bids(1, [(-3, (5,)), (-2, (7,))]), Bids(1, [(1, (5,)), (-1, (7,))])
        low, high = buyer_range(one, other).reasons
        self.assertIs(is_range(one, other, NoRange((high, low))), True)
        self.all_wrong(one, other, [NoRange((low,)), NoRange((high,)), NoRange((low, low)), NoRange((high, high)),
                                    NoRange((low, high, low)), NoRange(()), Range((3, 1), (2, 1), low, high)])
        for reason in (low, high):
            self.all_wrong(one, other, [NoRange((low, value)) for value in wrong_reasons(high)])
            self.all_wrong(one, other, [NoRange((value, high)) for value in wrong_reasons(low)])
        harmless = Reason(("at", 0, (9, 1)), ((9, 1),), (0, 0))
        self.all_wrong(one, other, [NoRange((low, harmless))])
        self.assertIs(is_range(one + Bids(1, [(-1, (9,))]), other, NoRange((
            Reason(("at", 0, (9, 1)), ((9, 1),), (-1, 0)), harmless_at(8)))), True)

    def test_lists_changed_within_an_object(self):
        one, other = Bids(1, [(3, (5,))]), Bids(1, [(-2, (5,))])
        for name in ["high", "above"]:
            found = buyer_range(one, other)
            setattr(found, name, list(found.high) if name == "high" else [found.above])
            self.assertIs(is_range(one, other, found), False)
        for name in ["wall", "place", "numbers"]:
            found = buyer_range(one, other)
            setattr(found.above, name, list(getattr(found.above, name)))
            self.assertIs(is_range(one, other, found), False)
        found = mended(other, [one])
        for name in ["number", "weights", "grounds"]:
            found = mended(other, [one])
            setattr(found, name, list(getattr(found, name)))
            self.assertIs(is_mending(other, [one], found), False)

    def test_mendings_with_one_thing_changed(self):
        bids = Bids(2, [(-3, (5, 1)), (-2, (7, 4))])
        helpers = [Bids(2, [(2, (5, 1))]), Bids(2, [(3, (7, 4)), (-1, (5, 1))])]
        found = mended(bids, helpers)
        self.assertEqual((found.number, found.weights), ((5, 2), ((11, 6), (2, 3))))
        self.assertIs(is_mending(bids, helpers, copied(found)), True)
        self.assertIs(is_mending(bids, tuple(helpers), copied(found, grounds=found.grounds[::-1])), True)
        wrong = [copied(found, number=value) for value in wrong_ratios(found.number)]
        for value in wrong_ratios(found.weights[0]):
            wrong.append(copied(found, weights=(value, found.weights[1])))
        (factor, reason), rest = found.grounds[0], found.grounds[1:]
        for value in wrong_ratios(factor):
            wrong.append(copied(found, grounds=((value, reason),) + rest))
        for value in wrong_reasons(reason):
            wrong.append(copied(found, grounds=((factor, value),) + rest))
        for value in [(), rest, found.grounds + found.grounds[:1], (found.grounds,), None, found.grounds[0],
                      ((reason, factor),) + rest, ((factor, reason, 1),) + rest, (reason,) + rest]:
            wrong.append(copied(found, grounds=value))
        for value in [found.weights[::-1], found.weights[:1], found.weights + ((0, 1),), (), None, ((5, 2), (0, 1)),
                      ((19, 6), (-2, 3)), ((11, 6), (2, 3), (0, 1))]:
            wrong.append(copied(found, weights=value))
        more = copied(found, number=(7, 2), weights=((17, 6), (2, 3)))
        wrong += [more, NoMending(found.grounds), Range((5, 2), None, None, None)]
        self.all_wrong_mendings(bids, helpers, wrong)
        self.all_wrong_mendings(bids, helpers[::-1], [found])
        self.all_wrong_mendings(bids, helpers[:1], [found])

    def test_free_grounds(self):
        """Factors may be 0, and one reason may stand twice with parts of its factor."""
        bids, helpers = Bids(1, [(-3, (5,))]), [Bids(1, [(2, (5,)), (1, (6,))])]
        reason = Reason(("at", 0, (5, 1)), ((5, 1),), (-3, 2))
        other = Reason(("at", 0, (6, 1)), ((6, 1),), (0, 1))
        for grounds, wanted in [
                ((((1, 2), reason),), True), ((((1, 4), reason), ((1, 4), reason)), True),
                ((((1, 2), reason), ((0, 1), other)), True), ((((1, 2), reason), ((1, 1), other)), False),
                ((((1, 2), reason), ((0, 2), other)), False), ((((-1, 2), reason), ((1, 1), reason)), False),
                ((((1, 2), reason), ((1, 1), harmless_at(9, 2))), True)]:
            self.assertIs(is_mending(bids, helpers, Mending((3, 2), ((3, 2),), grounds)), wanted)

    def test_weights_below_zero(self):
        """A helper that changes nothing could make the sum less."""
        bids, helpers = Bids(1, [(-3, (5,))]), [Bids(1, [(2, (5,))]), Bids(1, [])]
        reason = Reason(("at", 0, (5, 1)), ((5, 1),), (-3, 2, 0))
        for weights, wanted in [(((3, 2), (0, 1)), True), (((2, 1), (-1, 2)), False), (((5, 2), (-1, 1)), False)]:
            self.assertIs(is_mending(bids, helpers, Mending((3, 2), weights, (((1, 2), reason),))), wanted)

    def test_no_mendings_with_one_thing_changed(self):
        bids = Bids(1, [(-3, (5,)), (-2, (7,))])
        one, other = Bids(1, [(1, (5,))]), Bids(1, [(1, (7,))])
        helpers = [one + -other, other + -one]
        found = mended(bids, helpers)
        self.assertEqual(len(found.grounds), 2)
        self.assertIs(is_mending(bids, helpers, copied(found)), True)
        doubled = tuple((pair(2 * fraction(factor)), reason) for factor, reason in found.grounds)
        self.assertIs(is_mending(bids, helpers, NoMending(doubled)), True)
        self.assertIs(is_mending(bids, helpers, NoMending(doubled + found.grounds)), True)
        wrong = [NoMending(value) for value in [(), None, found.grounds[:1], found.grounds[1:], found.grounds[0],
                                                (found.grounds,), found.grounds + found.grounds[:1]]]
        (factor, reason), rest = found.grounds[0], found.grounds[1:]
        wrong += [NoMending(((value, reason),) + rest) for value in wrong_ratios(factor)]
        wrong += [NoMending(((factor, value),) + rest) for value in wrong_reasons(reason)]
        zeros = tuple(((0, 1), reason) for _, reason in found.grounds)
        wrong += [NoMending(zeros), Mending((0, 1), ((0, 1), (0, 1)), found.grounds), NoRange(found.grounds)]
        self.all_wrong_mendings(bids, helpers, wrong)
        self.all_wrong_mendings(bids, [one, other], [found])

    def test_without_helpers(self):
        self.assertIs(is_mending(MENDED, (), Mending((0, 1), (), ())), True)
        self.all_wrong_mendings(MENDED, (), [Mending((1, 1), (), ()), Mending((0, 1), ((0, 1),), ()),
                                             Mending((0, 2), (), ()), Mending(0, (), ()), NoMending(())])
        self.all_wrong_mendings(BARRED, (), [Mending((0, 1), (), ()), NoMending(())])
        self.assertIs(is_mending(BARRED, (), mended(BARRED, ())), True)

    def test_what_they_are_created_with(self):
        for value in [(), (1, 2), 5, True, None, ((1, 2), (True, None))]:
            made = Range(value, value, value, value)
            self.assertEqual((made.low, made.high, made.below, made.above), (value,) * 4)
            made = Reason(value, value, value)
            self.assertEqual((made.wall, made.place, made.numbers), (value,) * 3)
            made = Mending(value, value, value)
            self.assertEqual((made.number, made.weights, made.grounds), (value,) * 3)
            self.assertEqual((NoRange(value).reasons, NoMending(value).grounds), (value, value))
        self.assertIs(Range(True, False, None, 1).low, True)
        inner = Reason(None, None, None)
        self.assertIs(NoRange((inner,)).reasons[0], inner)
        self.assertIs(Range(None, None, inner, None).below, inner)
        self.assertIs(Mending(0, (), ((1, inner),)).grounds[0][1], inner)
        for one, two in itertools.permutations([Reason(1, 2, 3), Reason(1, 2, 3)]):
            self.assertFalse(one == two)


def harmless_at(number, many=2):
    """A reason on a wall that is no plane of lists with lower numbers."""
    return Reason(("at", 0, (number, 1)), ((number, 1),), (0,) * many)


if __name__ == "__main__":
    unittest.main()
