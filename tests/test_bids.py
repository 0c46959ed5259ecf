"""Points 6 to 9: lists of bids, their plain lists, sums and texts."""

import random
import unittest

from allbids.bids import Bids, bids_of, bids_text, wants
from allbids.errors import BadLine, BadNumber, BadRow, Unlike

from oracles import fractions, random_bids

NINES = 10 ** 20 - 1


class Plain(unittest.TestCase):
    def test_like_bids_are_added_up(self):
        bids = Bids(2, [(2, (3, (1, 2))), (3, [[6, 2], [2, 4]]), (-1, ((9, 3), (3, 6)))])
        self.assertEqual(bids.kinds, 2)
        self.assertEqual(bids.rows, ((4, ((3, 1), (1, 2))),))

    def test_what_comes_to_nothing_is_left_out(self):
        bids = Bids(1, [(2, (3,)), (-2, [(6, 2)]), (0, (5,)), (7, (0,)), (1, [(0, 9)])])
        self.assertEqual(bids.rows, ())
        self.assertEqual(Bids(3, ()).rows, ())
        self.assertEqual(Bids(2, [(1, (4, 4)), (1, (1, 1)), (-1, (4, 4))]).rows, ((1, ((1, 1), (1, 1))),))

    def test_order_is_by_values(self):
        rows = [(1, (10, 0)), (1, ((1, 2), 9)), (1, ((1, 3), 9)), (1, (9, 1)), (1, (9, (1, 2))), (1, (0, 2))]
        told = Bids(2, rows).rows
        self.assertEqual([row[1] for row in told], [((0, 1), (2, 1)), ((1, 3), (9, 1)), ((1, 2), (9, 1)),
                                                    ((9, 1), (1, 2)), ((9, 1), (1, 1)), ((10, 1), (0, 1))])
        third = Bids(3, [(1, (1, 1, (2, 3))), (1, (1, 1, (3, 5))), (1, (1, 0, 7))]).rows
        self.assertEqual([row[1][2] for row in third], [(7, 1), (3, 5), (2, 3)])

    def test_rows_are_tuples_all_through(self):
        bids = Bids(2, [[1, [2, [3, 6]]]])
        self.assertEqual(repr(bids.rows), "((1, ((2, 1), (1, 2))),)")

    def test_any_list_leads_to_its_plain_list(self):
        rng = random.Random(6)
        for _ in range(200):
            kinds = rng.choice([1, 2, 3])
            rows = [(rng.randint(-2, 2), [(rng.randint(0, 3), rng.randint(1, 3)) for _ in range(kinds)])
                    for _ in range(rng.randint(0, 12))]
            sums = {}
            for weight, numbers in rows:
                key = tuple(fractions(numbers))
                sums[key] = sums.get(key, 0) + weight
            wanted = [(sums[key], key) for key in sorted(sums) if sums[key] != 0 and any(key)]
            told = [(weight, tuple(fractions(numbers))) for weight, numbers in Bids(kinds, rows).rows]
            self.assertEqual(told, wanted)

    def test_kinds(self):
        for kinds in [0, 4, -1, True, None, "2", 2.0, (2,), [1]]:
            with self.assertRaises(BadNumber) as caught:
                Bids(kinds, [None])
            self.assertEqual(caught.exception.what, "kinds")
            self.assertIs(caught.exception.number, kinds)

    def test_the_first_wrong_row(self):
        wrong = [None, 5, "ab", (), (1,), (1, (1, 1), 1), (True, (1, 1)), ((1, 1), (1, 1)), (1.0, (1, 1)),
                 ("1", (1, 1)), (1, (1,)), (1, (1, 1, 1)), (1, (1, -1)), (1, (1, (-1, 2))), (1, (1, True)),
                 (1, (1, (1, 0))), (1, "11"), (1, None), (1, {0: 1, 1: 1}), [1, [1, None]], (1, 1), {1: 2, 3: 4},
                 (1, (1, (1, 2, 3)))]
        for row in wrong:
            with self.assertRaises(BadRow, msg=row) as caught:
                Bids(2, [(1, (1, 2)), [0, [0, 0]], row, None])
            self.assertIs(caught.exception.row, row)

    def test_numbers_for_other_kinds_are_wrong(self):
        for kinds in [1, 2, 3]:
            for many in [0, 1, 2, 3, 4]:
                row = (1, (1,) * many)
                if many == kinds:
                    self.assertEqual(Bids(kinds, [row]).kinds, kinds)
                else:
                    with self.assertRaises(BadRow) as caught:
                        Bids(kinds, [row])
                    self.assertIs(caught.exception.row, row)

    def test_lists_are_copied(self):
        numbers, number = [1, 2], [3, 1]
        numbers[1] = number
        row = [1, numbers]
        rows = [row]
        bids = Bids(2, rows)
        rows.append(None)
        row[0] = 9
        numbers[0] = 9
        number[0] = 9
        self.assertEqual(bids.rows, ((1, ((1, 1), (3, 1))),))
        self.assertEqual(rows, [[9, [9, [9, 1]]], None])


class Signs(unittest.TestCase):
    def setUp(self):
        self.one = Bids(2, [(2, (3, 0)), (-1, (1, 1))])
        self.other = Bids(2, [(1, (1, 1)), (5, (0, (1, 2)))])

    def test_equal(self):
        self.assertTrue(self.one == Bids(2, [(-1, [1, (2, 2)]), (2, ((6, 2), 0)), (0, (9, 9))]))
        self.assertFalse(self.one != Bids(2, self.one.rows))
        self.assertFalse(self.one == self.other)
        self.assertFalse(Bids(1, []) == Bids(2, []))
        self.assertTrue(Bids(3, []) == Bids(3, [(1, (0, 0, 0))]))
        for value in [None, 2, "x", self.one.rows, (2, self.one.rows), object()]:
            self.assertFalse(self.one == value)
            self.assertTrue(self.one != value)

    def test_sum(self):
        both = self.one + self.other
        self.assertIsInstance(both, Bids)
        self.assertEqual(both.rows, ((5, ((0, 1), (1, 2))), (2, ((3, 1), (0, 1)))))
        self.assertEqual(self.one + Bids(2, []), self.one)
        self.assertEqual(self.one + self.other, self.other + self.one)

    def test_sum_of_unlike_kinds(self):
        for kinds in [1, 3]:
            with self.assertRaises(Unlike) as caught:
                self.one + Bids(kinds, [])
            self.assertEqual(caught.exception.what, "kinds")

    def test_turned_about(self):
        turned = -self.one
        self.assertEqual(turned, Bids(2, [(-2, (3, 0)), (1, (1, 1))]))
        self.assertEqual((self.one + turned).rows, ())
        self.assertEqual(-Bids(1, []), Bids(1, []))

    def test_times_a_number(self):
        for number in [0, 1, 3, -2, NINES]:
            wanted = Bids(2, [(2 * number, (3, 0)), (-number, (1, 1))])
            self.assertEqual(number * self.one, wanted)
            self.assertEqual(self.one * number, wanted)
        self.assertEqual((0 * self.one).rows, ())
        self.assertEqual((-1) * self.one, -self.one)

    def test_nothing_changes_what_it_is_made_of(self):
        before = self.one.rows, self.other.rows
        self.one + self.other, -self.one, 3 * self.one, self.one * 3, self.one == self.other
        self.assertEqual((self.one.rows, self.other.rows), before)


class Texts(unittest.TestCase):
    def test_text_of_a_list(self):
        bids = Bids(2, [(-1, (1, (2, 4))), (20, (0, 7)), (10 ** 25, (10 ** 24, (1, 10 ** 23)))])
        self.assertEqual(bids_text(bids), "20 x 0 7\n-1 x 1 1/2\n1" + "0" * 25 + " x 1" + "0" * 24 + " 1/1"
                         + "0" * 23 + "\n")
        self.assertEqual(bids_text(Bids(1, [])), "")
        self.assertEqual(bids_text(Bids(1, [(3, (2,)), (4, ((1, 3),))])), "4 x 1/3\n3 x 2\n")

    def test_lists_of_texts(self):
        wanted = Bids(2, [(2, (3, 0)), (-1, (1, (1, 2)))])
        for text in ["2 x 3 0\n-1 x 1 1/2\n", "-1 x 1 1/2\n2 x 3 0", "  2   x 3  0  \n\n   \n -1 x 1 2/4 ",
                     "\n\n1 x 3 0\n1 x 3 0\n-1 x 1 1/2\n0 x 7 7\n5 x 0 0\n-0 x 1 1", "2 x 6/2 0/5\n-1 x 1 1/2\n   "]:
            self.assertEqual(bids_of(2, text), wanted, text)
        for text in ["", "   ", "\n", "  \n \n", "0 x 1 1", "1 x 0 0/7\n"]:
            self.assertEqual(bids_of(2, text), Bids(2, []), text)
        self.assertEqual(bids_of(1, "1 x 1"), Bids(1, [(1, (1,))]))
        self.assertEqual(bids_of(3, "1 x 1 2 3"), Bids(3, [(1, (1, 2, 3))]))

    def test_texts_lead_back(self):
        rng = random.Random(8)
        for _ in range(100):
            bids = random_bids(rng, rng.choice([1, 2, 3]), 6, 9, bottoms=(1, 2, 3, 7))
            self.assertEqual(bids_of(bids.kinds, bids_text(bids)), bids)

    def test_kinds_come_first(self):
        for kinds in [0, 4, True, None, "1", 1.0]:
            with self.assertRaises(BadNumber) as caught:
                bids_of(kinds, None)
            self.assertEqual(caught.exception.what, "kinds")
            self.assertIs(caught.exception.number, kinds)

    def wrong(self, kinds, text, line, column):
        with self.assertRaises(BadLine, msg=text) as caught:
            bids_of(kinds, text)
        self.assertEqual((caught.exception.line, caught.exception.column), (line, column), text)

    def test_what_is_no_string(self):
        for text in [None, 5, b"1 x 1 1", ["1 x 1 1"], ("",)]:
            self.wrong(2, text, 0, 0)

    def test_the_first_wrong_column(self):
        ones = "1" * 20
        for line, column in [
                ("y", 1), ("-", 2), ("--1 x 1 1", 2), ("3", 2), ("3 ", 3), ("3x 1 1", 2), ("3 y", 3), ("3 x", 4),
                ("3 x1 1", 4), ("3 xx 1 1", 4), ("3 x ", 5), ("3 x 1", 6), ("3 x 1 ", 7), ("3 x 1  ", 8),
                ("3 x 1 2 3", 9), ("3 x 1 2 x", 9), ("3 x 1 2  ,", 10), ("3 x 1,2", 6), ("3 x 01 2", 6),
                ("03 x 1 2", 2), ("00 x 1 2", 2), ("-01 x 1 2", 3), ("1/2 x 1 2", 2), ("3 x -1 2", 5),
                ("3 x 1 -0", 7), ("3 x 1 1/0", 9), ("3 x 1 1/", 9), ("3 x 1/ 2", 7), ("3 x 1 1/-2", 9),
                ("3 x 1 2\t", 8), ("\t3 x 1 2", 1), ("3\tx 1 2", 2), ("3 x 1 2\r", 8), ("3 X 1 2", 3),
                (ones + "1 x 1 2", 21), ("-" + ones + "1 x 1 2", 22), ("1 x " + ones + "1 2", 25),
                ("1 x 1/" + ones + "1 2", 27), ("3 x 1 2/3/4", 10), ("+3 x 1 2", 1), (" 3 x 1 2x", 9),
                ("x 1 2", 1), ("3 1 2", 3), ("3 x 1 \u0662", 7), ("3\u00a0x 1 2", 2), ("  -x", 4)]:
            self.wrong(2, line, 1, column)
            self.wrong(2, line + "\n", 1, column)
            self.wrong(2, "1 x 1 1\n\n  \n" + line + "\nwrong too", 4, column)

    def test_lines_for_other_kinds(self):
        self.wrong(1, "1 x 1 1", 1, 7)
        self.wrong(1, "1 x", 1, 4)
        self.wrong(3, "1 x 1 1\n", 1, 8)
        self.wrong(3, "1 x 1 1 1 1", 1, 11)

    def test_twenty_digits_are_read(self):
        ones = "1" * 20
        text = "-" + ones + " x " + ones + "/" + "9" * 20 + " 0"
        self.assertEqual(bids_of(2, text), Bids(2, [(-int(ones), ((int(ones), NINES), 0))]))


class Sizes(unittest.TestCase):
    def test_wants(self):
        self.assertEqual(wants(Bids(2, [])), 0)
        self.assertEqual(wants(Bids(2, [(2, (3, 0)), (1, (0, 1)), (-1, (1, 1))])), 2)
        self.assertEqual(wants(Bids(1, [(-5, (1,)), (2, (2,)), (7, (0,))])), -3)
        self.assertEqual(wants(Bids(1, [(NINES, (1,)), (NINES, (2,))])), 2 * NINES)

    def test_forty_bids_of_twenty_digits(self):
        rng = random.Random(9)
        rows = [(rng.randint(-NINES, NINES), [(rng.randint(0, NINES), rng.randint(1, NINES)) for _ in range(3)])
                for _ in range(40)]
        bids = Bids(3, rows)
        order = [tuple(fractions(numbers)) for _, numbers in bids.rows]
        self.assertEqual(len(order), 40)
        self.assertEqual(order, sorted(order))
        self.assertEqual(bids_of(3, bids_text(bids)), bids)
        self.assertEqual(wants(bids), sum(weight for weight, _ in rows))
        self.assertEqual((bids + bids), 2 * bids)
        self.assertEqual((bids + -bids).rows, ())


if __name__ == "__main__":
    unittest.main()
