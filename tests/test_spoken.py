"""Points 91, 92 and 96: at which sign the texts of a desk, of promises and of questions are wrong."""

import random
import unittest

from allbids.desk import Desk
from allbids.errors import BadLine, BadText, NoBuyer, NoName

WORDS = ("is", "a", "buyer", "alike", "never", "below", "clears", "for", "list", "at", "wants", "least")
LETTERS = "abcdefghijklmnopqrstuvwxyzABCDEFGHIJKLMNOPQRSTUVWXYZ"
DIGITS = "0123456789"
LONG = "12345678901234567890"


class Reading:
    """Reads a text in all ways that some form allows, and keeps how far any of them goes: each beginning that one of
    them reads can be gone on with."""

    def __init__(self, text):
        self.text = text
        self.far = 0

    def sign(self, at, signs):
        if at < len(self.text) and self.text[at] in signs:
            self.far = max(self.far, at + 1)
            return [at + 1]
        return []

    def word(self, at, word):
        places = [at]
        for sign in word:
            places = [end for place in places for end in self.sign(place, sign)]
        return places

    def many(self, at, signs, least, most):
        found, places = [], [at]
        for many in range(most + 1):
            found += places if many >= least else []
            places = [end for place in places for end in self.sign(place, signs)] if many < most else []
        return found

    def spaces(self, at):
        return self.many(at, " ", 0, len(self.text))

    def gap(self, at):
        return self.many(at, " ", 1, len(self.text))

    def name(self, at):
        ends = [end for first in self.sign(at, LETTERS) for end in self.many(first, LETTERS + DIGITS, 0, 11)]
        return [end for end in ends if self.text[at:end] not in WORDS]

    def number(self, at):
        return self.sign(at, "0") + self.from_one(at)

    def from_one(self, at):
        return [end for first in self.sign(at, DIGITS[1:]) for end in self.many(first, DIGITS, 0, 19)]

    def ratio(self, at):
        ends = self.number(at)
        return ends + [end for place in ends for slash in self.sign(place, "/") for end in self.from_one(slash)]

    def minus(self, at):
        return [at] + self.sign(at, "-")

    def comma(self, at):
        return self.sign(at, ",")

    def end(self, at):
        return [at] if at == len(self.text) else []

    def row(self, at, *parts):
        """All ends of parts that stand one after the other: words, or ways to read."""
        places = [at]
        for part in parts:
            if isinstance(part, str):
                places = [end for place in places for end in self.word(place, part)]
            else:
                places = [end for place in places for end in part(place)]
        return sorted(set(places))

    def listed(self, one, kinds):
        return [part for k in range(kinds) for part in ([self.comma] if k else []) + [one]]

    def names(self, at):
        found, places = [], [at]
        while places:
            places = sorted({end for place in places for end in self.row(place, self.gap, self.name)})
            found += places
        return sorted(set(found))


def column(text, forms):
    """0 if a text has one of some forms, otherwise the column at which it is wrong."""
    reading = Reading(text)
    if any([reading.row(0, reading.spaces, *form(reading), reading.spaces, reading.end) for form in forms]):
        return 0
    return reading.far + 1


def promise_forms(kinds):
    return [lambda r: (r.name, r.gap, "is", r.gap, "a", r.gap, "buyer"),
            lambda r: (r.name, r.gap, "alike", r.gap, r.name),
            lambda r: (r.name, r.gap, "never", r.gap, "below", r.gap, r.name),
            lambda r: (*r.listed(r.ratio, kinds), r.gap, "clears", r.gap, *r.listed(r.number, kinds), r.gap, "for",
                       r.names)]


def question_forms(kinds):
    return [lambda r: (r.name, r.gap, "at", r.gap, *r.listed(r.ratio, kinds)),
            lambda r: (r.name, r.gap, "wants", r.gap, *r.listed(r.number, kinds)),
            lambda r: ("least", r.gap, *r.listed(r.number, kinds), r.gap, "for", r.names)]


def line_forms(kinds, first):
    forms = [lambda r: (), lambda r: ("list", r.gap, r.name)]
    numbers = lambda r: [part for _ in range(kinds) for part in (r.gap, r.ratio)]
    return forms if first else forms + [lambda r: (r.minus, r.number, r.gap, "x", *numbers(r))]


def wrong_line(kinds, text):
    """None for the right text of a desk, otherwise the line and the column at which it is wrong."""
    names = []
    for place, line in enumerate(text.split("\n")):
        wrong = column(line, line_forms(kinds, not names))
        words = line.split(" ")
        if "list" in words[:1 + len(line) - len(line.lstrip(" "))]:
            name = line.lstrip(" ")[4:].lstrip(" ").split(" ")[0]
            if name in names:
                start = line.index("list") + 4
                start += len(line[start:]) - len(line[start:].lstrip(" ")) + 1
                wrong = start if wrong == 0 else min(start, wrong)
            names.append(name)
        if wrong:
            return (place + 1, wrong)
    return None


def some_texts(seed, many, texts, signs):
    """Right texts, and texts that are made from them by a few changes."""
    rng = random.Random(seed)
    for _ in range(many):
        text = rng.choice(texts)
        for _ in range(rng.choice([0, 1, 1, 1, 2, 3])):
            at = rng.randint(0, len(text))
            cut = rng.choice([0, 0, 1, 1, 2, len(text)])
            text = text[:at] + rng.choice(["", "", rng.choice(signs), rng.choice(signs) * 2]) + text[at + cut:]
        yield text


SIGNS = [" ", " ", ",", "/", "-", "0", "1", "9" * 7, "A", "a", "x", "_", ".", "\n", "\t", "is", "a", "buyer", "alike",
         "never", "below", "clears", "for", "list", "at", "wants", "least", " is", " for ", "abcdefghijklm", "e",
         "\u00e9"]


class Columns(unittest.TestCase):
    def wrong_at(self, call, text):
        """0 for a text that is right, otherwise the column."""
        try:
            call(text)
        except BadText as wrong:
            self.assertIs(wrong.column.__class__, int)
            return wrong.column
        except (NoName, NoBuyer):
            return 0
        return 0

    def test_promises(self):
        desk = Desk(2, "list A\n1 x 1 2\nlist B2\nlist C\n-1 x 3 3")
        for text, wrong in (("A is a buyer", 0), ("  A  is   a buyer ", 0), ("", 1), ("   ", 4), ("A", 2), ("A ", 3),
                            ("1", 2), ("-1,2 clears 1,1 for A", 1), ("A is a buyerx", 13), ("A is a buyer B", 14),
                            ("is is a buyer", 3), ("is", 3), ("isx alike is", 13), ("isx alike is ", 13), ("A a", 4),
                            ("A as", 4), ("A alikeB", 8), ("A never above B", 9), ("A never below 1", 15),
                            ("abcdefghijklm is a buyer", 13), ("A alike abcdefghijklm", 21), ("A_B alike C", 2),
                            ("1,2 clears 1,1 for A B2 A", 0), ("1/2,0 clears 0,00 for A", 17), ("1/0,1", 3),
                            ("1, 2 clears", 3), ("1 clears 1 for A", 2), ("1,2,3 clears", 4), ("1,2 clears 1/2,1", 13),
                            ("1,2 clears 1,1", 15), ("1,2 clears 1,1 for", 19), ("1,2 clears 1,1 for ", 20),
                            ("1,2 clears 1,1 for A,B", 21), ("1,2 clears 1,1 for A for", 25),
                            ("01,2 clears 1,1 for A", 2), ("1" * 21 + ",2 clears 1,1 for A", 21), ("a is a buyer", 2),
                            ("A is a buyer\n", 13), ("A\tis a buyer", 2), ("1/,2", 3), ("1,2clears", 4)):
            for call in (desk.keep, desk.kept):
                self.assertEqual(self.wrong_at(call, text), wrong, text)

    def test_questions(self):
        desk = Desk(2, "list A\n1 x 1 2\nlist leas\nlist leastx\nlist C\n-1 x 3 3")
        for text, wrong in (("A at 1,2", 0), (" A  at  1/2,0 ", 0), ("A wants 3,0", 0), ("least 1,1 for A A", 0),
                            ("leas at 1,2", 0), ("leastx at 1,2", 0), ("", 1), ("A", 2), ("A at", 5), ("A at 1", 7),
                            ("A at 1,2,3", 9), ("A at -1,2", 6), ("A wants 1/2,1", 10), ("least", 6), ("least ", 7),
                            ("least at 1,2", 7), ("least 1,1 for", 14), ("least 1/1,1 for A", 8), ("is at 1,2", 3),
                            ("least 1,1 for A least", 22), ("A as", 4), ("A want 1,1", 7), ("1,1", 1), ("at at 1,2", 3),
                            ("least/", 6), ("leas", 5), ("A at 1,1 x", 10), ("A at1,1", 5)):
            self.assertEqual(self.wrong_at(desk.ask, text), wrong, text)

    def test_promises_by_all_readings(self):
        for kinds, numbers, units in ((1, "1/2", "10"), (2, "0,12/7", "3,0"), (3, "1,2,3/4", "0,1," + LONG)):
            desk = Desk(kinds)
            texts = ["A is a buyer", " A1  alike  bB ", "isx never below abcdefghijkl",
                     f"{numbers} clears {units} for A A b", f"{numbers}  clears {units}  for  forx  "]
            for text in some_texts(92 + kinds, 1500, texts, SIGNS):
                self.assertEqual(self.wrong_at(desk.kept, text), column(text, promise_forms(kinds)), text)

    def test_questions_by_all_readings(self):
        for kinds, numbers, units in ((1, "1/2", "10"), (2, "0,12/7", "3,0"), (3, "1,2,3/4", "0,1,1")):
            desk = Desk(kinds)
            texts = [f"A at {numbers}", f"  lea  wants {units} ", f"least {units} for A b A", f"leastx at {numbers}"]
            for text in some_texts(96 + kinds, 1500, texts, SIGNS):
                self.assertEqual(self.wrong_at(desk.ask, text), column(text, question_forms(kinds)), text)

    def test_no_strings(self):
        desk = Desk(2)
        for value in (None, 5, b"A is a buyer", ["A is a buyer"], True):
            for call in (desk.keep, desk.kept, desk.ask):
                with self.assertRaises(BadText) as caught:
                    call(value)
                self.assertEqual(caught.exception.column, 0)


class Lines(unittest.TestCase):
    def wrong_at(self, kinds, text):
        """None for a text that is right, otherwise the line and the column."""
        places = []
        for call in (lambda: Desk(kinds, text), lambda: Desk(kinds, "list A\n").put(text)):
            try:
                call()
            except BadLine as wrong:
                places.append((wrong.line, wrong.column))
            else:
                places.append(None)
        self.assertEqual(places[0], places[1])
        return places[0]

    def test_right(self):
        for text in ("", "\n", "  \n\n ", "list A", "list A\n", " list   A  \n\n  \n1 x 2 3\n",
                     "list A\nlist B\n-1 x 0 1/2",
                     "list isx\nlist abcdefghijkl\nlist a1\n", "list A\n  12345678901234567890   x 0 0 "):
            self.assertIsNone(self.wrong_at(2, text), text)

    def test_wrong(self):
        for text, line, wrong in (("1 x 2 3", 1, 1), ("  1 x 2 3\nlist A", 1, 3), ("\n\n x", 3, 2), ("li", 1, 3),
                                  ("lisp A", 1, 4), ("list", 1, 5), ("listA", 1, 5), ("list ", 1, 6), ("list 1", 1, 6),
                                  ("list is", 1, 8), ("list is ", 1, 8), ("list least x", 1, 11), ("list A B", 1, 8),
                                  ("list A1_", 1, 8), ("list abcdefghijklm", 1, 18), ("list A\n1 x 2", 2, 6),
                                  ("list A\n1 x 2 3 4", 2, 9), ("list A\n1 y 2 3", 2, 3), ("list A\n1/2 x 2 3", 2, 2),
                                  ("list A\n1 x -2 3", 2, 5), ("list A\n\n  list A", 3, 8), ("list A\nlist  A B", 2, 7),
                                  ("list A\nlist B\nlist A", 3, 6), ("list A\nlist A\n1 y", 2, 6), ("LIST A", 1, 1),
                                  ("list A\n x", 2, 2), ("list A\r\n", 1, 7), ("list A\n1 x 2 3\t", 2, 8),
                                  ("list A\nlist AB\nlist A/", 3, 6), ("list A\nlist for", 2, 9), ("list A\n- 1", 2, 2),
                                  ("list abcdefghijkl\nlist abcdefghijklm", 2, 18)):
            self.assertEqual(self.wrong_at(2, text), (line, wrong), text)

    def test_by_all_readings(self):
        texts = ["list A\n1 x 2 3\n\nlist B\n", " list  Ab \n-12 x 1/2  0 \n  \nlist A\nlist C\n3 x 0 0",
                 "list A\nlist B", "list abcdefghijkl\n1 x 1 1\nlist isa\n0 x 0 0\n"]
        seen = set()
        for text in some_texts(91, 4000, texts, SIGNS + ["list A", "\nlist A", "\n1 x 1 1", "\nlist B \n"]):
            # A taken name with other signs right behind it is looked at above.
            told = wrong_line(2, text)
            self.assertEqual(self.wrong_at(2, text), told, text)
            seen.add(told is None)
        self.assertEqual(seen, {True, False})

    def test_no_strings(self):
        for value in (None, 5, b"", [], True):
            with self.assertRaises(BadLine) as caught:
                Desk(2, value)
            self.assertEqual((caught.exception.line, caught.exception.column), (0, 0))
            with self.assertRaises(BadLine) as caught:
                Desk(2).put(value)
            self.assertEqual((caught.exception.line, caught.exception.column), (0, 0))


if __name__ == "__main__":
    unittest.main()
