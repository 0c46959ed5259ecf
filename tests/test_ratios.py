"""Points 4 and 5: ratios and their texts."""

import random
import unittest

from allbids.errors import BadNumber, BadText
from allbids.ratios import is_ratio, less, minus, plus, ratio_of, ratio_text, times, told

from oracles import fraction, pair

GREAT = 10 ** 40 + 7
NO_RATIOS = [True, False, None, "1", "1/2", 1.5, (), (1,), (1, 2, 3), (1, 0), (1, -2), [3, 0], (True, 2), (1, True),
             (1.0, 2), ("1", 2), ((1, 2), 3), {1: 2}, {1, 2}, [None, 1], b"12", object()]


class Values(unittest.TestCase):
    def test_what_is_a_ratio(self):
        for value in [0, 5, -5, GREAT, (0, 1), (6, 8), [6, 8], (-3, 4), [0, 9], (GREAT, GREAT)]:
            self.assertIs(is_ratio(value), True, value)

    def test_what_is_none(self):
        for value in NO_RATIOS:
            self.assertIs(is_ratio(value), False, value)

    def test_told(self):
        for value, pair_told in [(0, (0, 1)), (7, (7, 1)), (-7, (-7, 1)), ((6, 8), (3, 4)), ([-6, 8], (-3, 4)),
                                 ((0, 9), (0, 1)), ([GREAT * 2, GREAT], (2, 1)), ((-9, 3), (-3, 1))]:
            self.assertEqual(told(value, "it"), pair_told)
            self.assertIs(told(value, "it").__class__, tuple)

    def test_told_names_the_value(self):
        for value in NO_RATIOS:
            with self.assertRaises(BadNumber) as caught:
                told(value, "price")
            self.assertEqual(caught.exception.what, "price")
            self.assertIs(caught.exception.number, value)

    def test_reckoning(self):
        rng = random.Random(4)
        values = [0, 1, -1, (0, 5), [2, 4], (-2, 4), GREAT, (-GREAT, 3), (1, GREAT), [6, 4], (3, 2)]
        values += [(rng.randint(-50, 50), rng.randint(1, 12)) for _ in range(30)]
        for one in values:
            for other in values:
                first, second = fraction(one), fraction(other)
                self.assertEqual(plus(one, other), pair(first + second))
                self.assertEqual(minus(one, other), pair(first - second))
                self.assertEqual(times(one, other), pair(first * second))
                self.assertIs(less(one, other), first < second)

    def test_the_first_wrong_value_is_named(self):
        for reckon in [plus, minus, times, less]:
            for value in NO_RATIOS:
                for one, other in [(value, 1), (1, value), (value, None)]:
                    with self.assertRaises(BadNumber) as caught:
                        reckon(one, other)
                    self.assertEqual(caught.exception.what, "ratio")
                    self.assertIs(caught.exception.number, value)


class Texts(unittest.TestCase):
    def test_text_of_a_ratio(self):
        for value, text in [(0, "0"), ((0, 7), "0"), (5, "5"), (-5, "-5"), ((6, 8), "3/4"), ([-6, 8], "-3/4"),
                            ((8, 4), "2"), (10 ** 25, "1" + "0" * 25), ((-1, 10 ** 22), "-1/1" + "0" * 22)]:
            self.assertEqual(ratio_text(value), text)

    def test_text_of_very_great_numbers(self):
        self.assertEqual(ratio_text(10 ** 6000), "1" + "0" * 6000)
        self.assertEqual(ratio_text((-(10 ** 6000 + 3), 10 ** 5000)), "-1" + "0" * 5999 + "3/1" + "0" * 5000)
        self.assertEqual(ratio_text(10 ** 60), "1" + "0" * 60)
        self.assertEqual(ratio_text(10 ** 60 - 1), "9" * 60)

    def test_no_ratio_has_a_text(self):
        for value in NO_RATIOS:
            with self.assertRaises(BadNumber) as caught:
                ratio_text(value)
            self.assertEqual(caught.exception.what, "ratio")
            self.assertIs(caught.exception.number, value)

    def test_ratio_of_a_text(self):
        nines = "9" * 20
        for text, value in [("0", (0, 1)), ("-0", (0, 1)), ("0/5", (0, 1)), ("-0/5", (0, 1)), ("12", (12, 1)),
                            ("6/8", (3, 4)), ("-3/4", (-3, 4)), (nines, (int(nines), 1)),
                            ("-" + nines + "/" + nines, (-1, 1)), ("10/20", (1, 2))]:
            self.assertEqual(ratio_of(text), value)

    def test_texts_lead_back(self):
        for top in range(-12, 13):
            for bottom in range(1, 9):
                self.assertEqual(ratio_of(ratio_text((top, bottom))), told((top, bottom), "it"))

    def test_what_is_no_string(self):
        for value in [None, 1, (1, 2), b"1", ["1"], True]:
            with self.assertRaises(BadText) as caught:
                ratio_of(value)
            self.assertEqual(caught.exception.column, 0)

    def test_the_first_wrong_sign(self):
        ones = "1" * 20
        for text, column in [("", 1), ("-", 2), ("1/0", 3), ("1/", 3), ("01", 2), ("--1", 2), ("1/-2", 3),
                             (ones + "1", 21), ("-" + ones + "1", 22), ("1/" + ones + "1", 23), ("1 ", 2),
                             (" 1", 1), ("1\n", 2), ("1/2/3", 4), ("+1", 1), ("1.5", 2), ("x", 1), ("/2", 1),
                             ("-/2", 2), ("00", 2), ("-01", 3), ("0/", 3), ("1/00", 3), ("1/02", 3), ("1/20a", 5),
                             ("\u0661", 1), ("1\u00b2", 2), ("3/4-", 4), ("1-", 2)]:
            with self.assertRaises(BadText, msg=text) as caught:
                ratio_of(text)
            self.assertEqual(caught.exception.column, column, text)


if __name__ == "__main__":
    unittest.main()
