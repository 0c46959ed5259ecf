"""Points 91 to 97: a desk for lists and promises."""

import random
import unittest

from allbids.bids import Bids
from allbids.desk import Desk
from allbids.errors import (BadLine, BadName, BadNumber, BadText, BidError, NoBuyer, NoName, NotKept, NothingToRedo,
                            NothingToUndo, TakenName)
from allbids.gains import convex_at, gain
from allbids.markets import Market, clearing, least_prices
from allbids.ratios import less, ratio_text
from allbids.walls import is_buyer
from allbids.worths import worth

TEXT = "list A\n2 x 3 0\n1 x 0 1/2\nlist B\n1 x 2 2\nlist C\n-1 x 1 1\n"
A = Bids(2, [(2, (3, 0)), (1, (0, (1, 2)))])
B = Bids(2, [(1, (2, 2))])
C = Bids(2, [(-1, (1, 1))])
NO_ITEMS = [None, 5, "", "D", "a", "A ", "list", b"A", ["A"], ("A",), {}, True]


class Stop(BaseException):
    """An error of another kind."""


def whole(desk):
    """All that can be seen of a desk, but for what can be undone."""
    return desk.lines(), desk.names(), desk.promises()


def history(desk):
    """All states to which a desk can be brought by undo and by redo, each way, one after the other; the desk is as it
    was then."""
    rows = []
    for there, back, error in ((desk.undo, desk.redo, NothingToUndo), (desk.redo, desk.undo, NothingToRedo)):
        seen = []
        while True:
            try:
                there()
            except error:
                break
            seen.append(whole(desk))
        for _ in seen:
            back()
        rows.append(seen)
    return rows


class Desks(unittest.TestCase):
    def fails(self, error, values, call, *arguments):
        """A call raises an error with these fields, and changes nothing."""
        desk = getattr(call, "__self__", None)
        before = (whole(desk), history(desk)) if desk else None
        with self.assertRaises(error) as caught:
            call(*arguments)
        self.assertIs(caught.exception.__class__, error)
        fields = list(vars(caught.exception).values())
        self.assertEqual(len(fields), len(values))
        for field, value in zip(fields, values):
            self.assertTrue(field is value or field == value and field.__class__ is value.__class__, fields)
        if desk:
            self.assertEqual((whole(desk), history(desk)), before)

    def check_not_kept(self, promise, call, *arguments):
        """An edit that would break a promise raises NotKept, and changes nothing."""
        desk = call.__self__
        before = (whole(desk), history(desk))
        with self.assertRaises(NotKept) as caught:
            call(*arguments)
        self.assertEqual(caught.exception.promise, promise)
        self.assertEqual((whole(desk), history(desk)), before)
        return caught.exception.witness


class Items(Desks):
    def test_text(self):
        desk = Desk(2, TEXT)
        self.assertEqual(desk.names(), ("A", "B", "C"))
        self.assertEqual((desk.get("A"), desk.get("B"), desk.get("C")), (A, B, C))
        self.assertEqual(desk.lines(), "list A\n1 x 0 1/2\n2 x 3 0\nlist B\n1 x 2 2\nlist C\n-1 x 1 1\n")
        self.assertEqual(Desk(2, desk.lines()).lines(), desk.lines())
        self.assertEqual(desk.promises(), ())
        self.assertEqual(Desk(2, text=TEXT[:-1]).lines(), desk.lines())

    def test_no_text(self):
        for desk in (Desk(1), Desk(3, ""), Desk(2, text="\n  \n")):
            self.assertEqual((desk.lines(), desk.names(), desk.promises(), desk.broken()), ("", (), (), ()))
            self.fails(NothingToUndo, [], desk.undo)
            self.fails(NothingToRedo, [], desk.redo)

    def test_spaces_and_empty_items(self):
        desk = Desk(1, "\n  list   Zz9  \n\n 1   x  3 \n   \n1 x 3\nlist abcdefghijkl\nlist q\n1 x 2\n-1 x 2\n0 x 9")
        self.assertEqual(desk.names(), ("Zz9", "abcdefghijkl", "q"))
        self.assertEqual(desk.lines(), "list Zz9\n2 x 3\nlist abcdefghijkl\nlist q\n")
        self.assertEqual(desk.get("q"), Bids(1, []))

    def test_wrong(self):
        for kinds in (0, 4, True, None, "2", (2, 1), 2.0):
            self.fails(BadNumber, ["kinds", kinds], Desk, kinds, None)
            self.fails(BadNumber, ["kinds", kinds], Desk, kinds)
        self.fails(BadLine, [0, 0], Desk, 2, None)
        self.fails(BadLine, [2, 6], Desk, 1, "list A\n1 x 2, 3")
        desk = Desk(2, TEXT)
        self.fails(BadLine, [0, 0], desk.put, 5)
        self.fails(BadLine, [3, 6], desk.put, "list D\n\nlist D\n1 x 3")
        for name in NO_ITEMS:
            self.fails(NoName, [name], desk.get, name)
            self.fails(NoName, [name], desk.drop, name)
            self.fails(NoName, [name], desk.rename, name, "A")

    def test_put(self):
        desk = Desk(2, TEXT)
        self.assertIsNone(desk.put("list D\n1 x 1 0\nlist B\nlist E\n"))
        self.assertEqual(desk.names(), ("A", "B", "C", "D", "E"))
        self.assertEqual((desk.get("B"), desk.get("D"), desk.get("A")), (Bids(2, []), Bids(2, [(1, (1, 0))]), A))
        self.assertIsNone(desk.put(" \n"))
        self.assertEqual(desk.names(), ("A", "B", "C", "D", "E"))

    def test_drop(self):
        desk = Desk(2, TEXT)
        self.assertIsNone(desk.drop("B"))
        self.assertEqual((desk.names(), desk.get("C")), (("A", "C"), C))
        desk.put("list B")
        self.assertEqual(desk.names(), ("A", "C", "B"))

    def test_rename(self):
        desk = Desk(2, TEXT)
        self.assertIsNone(desk.rename("B", "D2"))
        self.assertEqual((desk.names(), desk.get("D2")), (("A", "D2", "C"), B))
        for wrong in (None, 5, "", "1a", "a b", " D", "D ", "D\n", "is", "least", "abcdefghijklm", "D-", b"D", ["D"],
                      "\u00e9", "a\u0663"):
            self.fails(BadName, [wrong], desk.rename, None, wrong)
            self.fails(BadName, [wrong], desk.rename, "A", wrong)
        self.fails(NoName, ["B"], desk.rename, "B", "A")
        self.fails(TakenName, ["D2"], desk.rename, "A", "D2")
        self.fails(TakenName, ["A"], desk.rename, "A", "A")
        for name in ("isx", "abcdefghijkl", "Z", "leas", "List"):
            desk.rename("A", name)
            self.assertEqual(desk.names(), (name, "D2", "C"))
            desk.rename(name, "A")


class Promises(Desks):
    def test_buyer(self):
        desk = Desk(2, TEXT)
        self.assertEqual(desk.kept(" A is  a buyer"), (True, None))
        kept, witness = desk.kept("C is a buyer")
        self.assertIs(kept, False)
        self.assertFalse(convex_at(C, *witness))
        self.assertIsNone(desk.keep("A is a buyer"))
        self.assertFalse(convex_at(C, *self.check_not_kept("C is a buyer", desk.keep, "C is a buyer")))
        self.assertEqual(desk.promises(), ("A is a buyer",))

    def test_alike(self):
        desk = Desk(2, TEXT + "list D\n1 x 2 2\n0 x 9 9")
        self.assertEqual(desk.kept("B alike D"), (True, None))
        kept, witness = desk.kept("A  alike B")
        self.assertIs(kept, False)
        self.assertNotEqual(gain(A, witness), gain(B, witness))
        desk.keep("D alike B")
        witness = self.check_not_kept("D alike B", desk.put, "list D\n1 x 2 1")
        self.assertNotEqual(gain(B, witness), gain(Bids(2, [(1, (2, 1))]), witness))

    def test_never_below(self):
        desk = Desk(2, TEXT)
        self.assertEqual(desk.kept("B never below C"), (True, None))
        kept, witness = desk.kept("A never below B")
        self.assertIs(kept, False)
        self.assertTrue(less(gain(A, witness), gain(B, witness)))
        desk.keep("B never below C")
        witness = self.check_not_kept("B never below C", desk.put, "list C\n1 x 3 1")
        self.assertTrue(less(gain(B, witness), gain(Bids(2, [(1, (3, 1))]), witness)))

    def test_clears(self):
        desk = Desk(2, TEXT)
        least = least_prices(Market([A, B, A], (3, 1)))
        text = ",".join(map(ratio_text, least))
        for promise in (text + " clears 3,1 for A B A", f"  {text}  clears 3,1  for  B  A A "):
            self.assertEqual(desk.kept(promise), (True, None))
        self.assertEqual(desk.kept("9,9 clears 3,1 for A A B"), (False, least))
        # A name that stands twice tells two buyers.
        self.assertEqual(desk.kept("3,2 clears 1,1 for B"), (False, ((0, 1), (0, 1))))
        self.assertEqual(desk.kept("2/1,4/2 clears 1,1 for B B B"), (True, None))
        highs = clearing(Market([B, B], (1, 1))).highs
        self.assertEqual(desk.kept(",".join(map(ratio_text, highs)) + " clears 1,1 for B B"), (True, None))
        desk.keep("2,2 clears 1,1 for B B B")
        witness = self.check_not_kept("2,2 clears 1,1 for B B B", desk.put, "list B\n1 x 2 1")
        self.assertEqual(witness, least_prices(Market([Bids(2, [(1, (2, 1))])] * 3, (1, 1))))

    def test_errors(self):
        desk = Desk(2, TEXT)
        for call in (desk.keep, desk.kept):
            self.fails(BadText, [0], call, None)
            self.fails(BadText, [13], call, "A is a buyerx")
            self.fails(BadText, [6], call, "D is X buyer")
            self.fails(NoName, ["D"], call, "D is a buyer")
            self.fails(NoName, ["D"], call, "A alike D")
            self.fails(NoName, ["E"], call, "E never below D")
            self.fails(NoName, ["D"], call, "1,1 clears 1,1 for A D E C")
            self.fails(NoBuyer, [], call, "1,1 clears 1,1 for A C")
        self.assertEqual(desk.kept("C alike C"), (True, None))

    def test_order(self):
        """Of several promises that an edit would break, the one that was made first counts."""
        desk = Desk(2, TEXT)
        for promise in ("B is a buyer", "0,0 clears 9,9 for B", "A is a buyer", "B alike B"):
            desk.keep(promise)
        self.assertEqual(desk.promises(), ("B is a buyer", "0,0 clears 9,9 for B", "A is a buyer", "B alike B"))
        self.check_not_kept("B is a buyer", desk.put, "list A\n-1 x 1 1\nlist B\n-1 x 1 1")
        desk.release("B is a buyer")
        self.fails(NoBuyer, [], desk.put, "list A\n-1 x 1 1\nlist B\n-1 x 1 1")
        desk.release("0,0 clears 9,9 for B")
        self.check_not_kept("A is a buyer", desk.put, "list A\n-1 x 1 1\nlist B\n-1 x 1 1")
        desk.keep("B is a buyer")
        self.assertEqual(desk.promises(), ("A is a buyer", "B alike B", "B is a buyer"))

    def test_keep_twice(self):
        desk = Desk(2, TEXT)
        desk.keep("A is a buyer")
        desk.keep("B is a buyer")
        self.assertIsNone(desk.keep("A is a buyer"))
        self.assertEqual(desk.promises(), ("A is a buyer", "B is a buyer"))
        desk.keep("A is a  buyer")
        self.assertEqual(desk.promises(), ("A is a buyer", "B is a buyer", "A is a  buyer"))
        desk.undo()
        desk.undo()
        self.assertEqual(desk.promises(), ("A is a buyer", "B is a buyer"))
        desk.undo()
        self.assertEqual(desk.promises(), ("A is a buyer",))

    def test_release(self):
        desk = Desk(2, TEXT)
        desk.keep("A is a buyer")
        for wrong in (None, "A is a  buyer", "B is a buyer", "x y", b"", ["A is a buyer"], 5, {}):
            self.fails(NoName, [wrong], desk.release, wrong)
        self.assertIsNone(desk.release("A is a buyer"))
        self.assertEqual(desk.promises(), ())
        self.fails(NoName, ["A is a buyer"], desk.release, "A is a buyer")

    def test_dropped_and_renamed(self):
        desk = Desk(2, TEXT)
        least = ",".join(map(ratio_text, least_prices(Market([A, B, A], (9, 0)))))
        made = ("  A  is a buyer ", "B never  below C", least + " clears 9,0 for  A B A ", "B is a buyer")
        for text in made:
            desk.keep(text)
        self.assertEqual(desk.promises(), made)
        desk.rename("A", "Ab")
        self.assertEqual(desk.promises(), tuple(text.replace("A", "Ab") for text in made))
        desk.rename("B", "A")
        self.assertEqual(desk.promises(), tuple(text.replace("A", "Ab").replace("B", "A") for text in made))
        desk.drop("C")
        self.assertEqual(desk.promises(), tuple(text.replace("A", "Ab").replace("B", "A") for text in made
                                                if "C" not in text))
        desk.drop("Ab")
        self.assertEqual(desk.promises(), ("A is a buyer",))
        desk.undo()
        desk.undo()
        desk.undo()
        desk.undo()
        self.assertEqual((desk.promises(), desk.names()), (made, ("A", "B", "C")))

    def test_renamed_words(self):
        """Just names are named anew, not words that look like parts of them."""
        desk = Desk(1, "list is1\n1 x 1\nlist b\n1 x 1")
        for text in ("is1 is a buyer", "b alike is1", "0 clears 2 for b is1", "is1 never below is1"):
            desk.keep(text)
        desk.rename("is1", "s")
        self.assertEqual(desk.promises(), ("s is a buyer", "b alike s", "0 clears 2 for b s", "s never below s"))
        desk.rename("b", "e")
        self.assertEqual(desk.promises(), ("s is a buyer", "e alike s", "0 clears 2 for e s", "s never below s"))

    def test_broken(self):
        desk = Desk(2, TEXT)
        for promise in ("B never below C", "A is a buyer", "B is a buyer", "B alike B"):
            desk.keep(promise)
        self.assertEqual(desk.broken(), ())
        with desk as tried:
            tried.put("list B\n-2 x 1 1\nlist A\n-2 x 1 1")
            told = tried.broken()
            self.assertEqual([promise for promise, _ in told], ["B never below C", "A is a buyer", "B is a buyer"])
            for promise, witness in told:
                self.assertEqual(tried.kept(promise), (False, witness))
            tried.release("A is a buyer")
            self.assertEqual(len(tried.broken()), 2)
        self.assertEqual(desk.broken(), ())
        desk.keep("3,2 clears 1,0 for A")
        with desk as tried:
            tried.put("list A\n-1 x 1 1")
            self.fails(NoBuyer, [], tried.broken)


class Edits(Desks):
    def test_undo_and_redo(self):
        desk = Desk(2, TEXT)
        states = [whole(desk)]
        for edit in (lambda: desk.put("list D\n1 x 1 1"), lambda: desk.keep("D is a buyer"),
                     lambda: desk.rename("D", "E"), lambda: desk.release("E is a buyer"),
                     lambda: desk.keep("E alike E"), lambda: desk.drop("E"),
                     lambda: desk.put("")):
            self.assertIsNone(edit())
            states.append(whole(desk))
        self.assertEqual(history(desk), [states[-2::-1], []])
        for state in states[-2::-1]:
            self.assertIsNone(desk.undo())
            self.assertEqual(whole(desk), state)
        self.fails(NothingToUndo, [], desk.undo)
        for state in states[1:4]:
            self.assertIsNone(desk.redo())
            self.assertEqual(whole(desk), state)
        self.assertEqual(history(desk), [states[2::-1], states[4:]])
        desk.undo()
        desk.put("list F")
        self.fails(NothingToRedo, [], desk.redo)
        self.assertEqual(history(desk)[0], states[2::-1])

    def test_edits_that_change_nothing(self):
        desk = Desk(2, TEXT)
        desk.keep("A is a buyer")
        desk.put("list D")
        desk.undo()
        desk.keep("A is a buyer")
        self.fails(NothingToRedo, [], desk.redo)
        desk.put("")
        desk.attempt(lambda same: None)
        state = whole(desk)
        for _ in range(3):
            desk.undo()
            self.assertEqual(whole(desk), state)
        desk.undo()
        self.assertEqual(desk.promises(), ())
        self.fails(NothingToUndo, [], desk.undo)

    def test_errors_leave_what_can_be_done_again(self):
        desk = Desk(2, TEXT)
        desk.keep("A is a buyer")
        desk.put("list D")
        desk.undo()
        self.check_not_kept("A is a buyer", desk.put, "list A\n-1 x 1 1")
        self.fails(BadLine, [1, 1], desk.put, "?")
        desk.redo()
        self.assertEqual(desk.names(), ("A", "B", "C", "D"))

    def test_what_is_told_does_not_change(self):
        desk = Desk(2, TEXT)
        names, promises, bids = desk.names(), desk.promises(), desk.get("A")
        desk.put("list D\nlist A")
        desk.keep("A is a buyer")
        self.assertEqual((names, promises, bids), (("A", "B", "C"), (), A))


class Attempts(Desks):
    def test_one_edit(self):
        desk = Desk(2, TEXT)
        desk.put("list D")
        desk.undo()

        def action(same):
            self.assertIs(same, desk)
            self.fails(NothingToUndo, [], desk.undo)
            self.fails(NothingToRedo, [], desk.redo)
            desk.keep("B is a buyer")
            desk.put("list B\n-1 x 1 1")
            self.assertEqual(desk.broken()[0][0], "B is a buyer")
            desk.put("list B\n-1 x 1 2")
            desk.undo()
            self.assertEqual(desk.get("B"), Bids(2, [(-1, (1, 1))]))
            desk.put("list B\n1 x 1 1")
            return [7]

        self.assertEqual(desk.attempt(action), [7])
        self.assertEqual(desk.get("B"), Bids(2, [(1, (1, 1))]))
        self.assertEqual(desk.promises(), ("B is a buyer",))
        self.fails(NothingToRedo, [], desk.redo)
        desk.undo()
        self.assertEqual((desk.get("B"), desk.promises()), (B, ()))
        self.fails(NothingToUndo, [], desk.undo)
        desk.redo()
        self.assertEqual((desk.get("B"), desk.promises()), (Bids(2, [(1, (1, 1))]), ("B is a buyer",)))

    def test_promises_at_the_end(self):
        desk = Desk(2, TEXT)
        desk.keep("A is a buyer")
        desk.put("list D")
        desk.undo()
        self.check_not_kept("A is a buyer", desk.attempt, lambda same: same.put("list A\n-1 x 1 1"))
        self.check_not_kept("C is a buyer", desk.attempt, lambda same: same.keep("C is a buyer"))
        self.fails(NoName, ["X"], desk.attempt, lambda same: same.keep("X is a buyer"))
        self.fails(NoBuyer, [], desk.attempt, lambda same: same.keep("1,1 clears 1,1 for C"))
        desk.redo()
        self.assertEqual(desk.names(), ("A", "B", "C", "D"))

    def test_errors_of_all_kinds(self):
        desk = Desk(2, TEXT)
        desk.put("list D")
        desk.put("list E")
        desk.undo()
        before = (whole(desk), history(desk))
        for call in (desk.attempt, desk.trial):
            for error in (Stop("x"), ValueError(), NotKept(1, 2), KeyboardInterrupt(), SystemExit(3), GeneratorExit()):

                def action(same):
                    same.put("list A")
                    same.drop("B")
                    raise error

                with self.assertRaises(BaseException) as caught:
                    call(action)
                self.assertIs(caught.exception, error)
                self.assertEqual((whole(desk), history(desk)), before)
            with self.assertRaises(TypeError):
                call(None)
            self.assertEqual((whole(desk), history(desk)), before)

    def test_errors_that_are_caught_within(self):
        desk = Desk(2, TEXT)

        def action(same):
            same.put("list D")
            for call, arguments in ((same.put, ["?"]), (same.drop, ["X"]), (same.attempt, [lambda one: one.drop("X")])):
                with self.assertRaises(BidError):
                    call(*arguments)
            return "told"

        self.assertEqual(desk.attempt(action), "told")
        self.assertEqual(desk.names(), ("A", "B", "C", "D"))

    def test_within_each_other(self):
        desk = Desk(2, TEXT)
        desk.keep("A is a buyer")

        def inner(same):
            self.fails(NothingToUndo, [], same.undo)
            same.put("list A\n-1 x 2 2")
            same.put("list E")
            return 5

        def outer(same):
            same.put("list D")
            self.assertEqual(same.attempt(inner), 5)
            self.assertEqual(same.names(), ("A", "B", "C", "D", "E"))
            # The attempt within is one edit, and no promises are looked at behind it.
            self.assertEqual(len(history(same)[0]), 2)
            same.undo()
            self.assertEqual((same.names(), same.get("A")), (("A", "B", "C", "D"), A))
            same.redo()
            self.assertEqual(same.trial(lambda one: one.drop("A")), None)
            with same as tried:
                self.fails(NothingToUndo, [], tried.undo)
                tried.drop("B")
                tried.attempt(lambda one: one.rename("C", "B"))
                self.assertEqual(tried.names(), ("A", "B", "D", "E"))
                self.assertEqual(len(history(tried)[0]), 2)
            self.assertEqual(same.names(), ("A", "B", "C", "D", "E"))
            self.assertEqual(len(history(same)[0]), 2)
            same.put("list A\n1 x 1 1")
            return same.broken()

        self.assertEqual(desk.attempt(outer), ())
        self.assertEqual(desk.names(), ("A", "B", "C", "D", "E"))
        self.assertEqual(len(history(desk)[0]), 2)


class Trials(Desks):
    def test_with(self):
        desk = Desk(2, TEXT)
        desk.keep("A is a buyer")
        desk.put("list D")
        desk.put("list E")
        desk.undo()
        before = (whole(desk), history(desk))
        with desk as tried:
            self.assertIs(tried, desk)
            self.fails(NothingToUndo, [], desk.undo)
            self.fails(NothingToRedo, [], desk.redo)
            tried.put("list A\n-1 x 1 1")
            tried.rename("B", "Z")
            self.assertEqual(desk.names(), ("A", "Z", "C", "D"))
            self.assertEqual(desk.kept("A is a buyer")[0], False)
            self.assertEqual(desk.promises(), ("A is a buyer",))
            tried.undo()
            self.assertEqual(desk.names(), ("A", "B", "C", "D"))
            tried.redo()
            self.assertEqual(desk.ask("Z at 0,0"), "2")
            with desk as again:
                again.drop("Z")
                self.assertEqual(again.names(), ("A", "C", "D"))
            self.assertEqual(desk.names(), ("A", "Z", "C", "D"))
        self.assertEqual((whole(desk), history(desk)), before)
        desk.redo()
        self.assertEqual(desk.names(), ("A", "B", "C", "D", "E"))

    def test_errors_go_on(self):
        desk = Desk(2, TEXT)
        desk.put("list D")
        before = (whole(desk), history(desk))
        for error in (Stop(), NoBuyer(), KeyboardInterrupt()):
            with self.assertRaises(BaseException) as caught:
                with desk as tried:
                    tried.drop("A")
                    with tried:
                        tried.drop("B")
                        raise error
            self.assertIs(caught.exception, error)
            self.assertEqual((whole(desk), history(desk)), before)

    def test_trial(self):
        desk = Desk(2, TEXT)
        desk.keep("A is a buyer")
        desk.undo()
        before = (whole(desk), history(desk))
        seen = []

        def action(same):
            self.assertIs(same, desk)
            same.put("list A\n-1 x 1 1")
            same.keep("A is a buyer")
            seen.append(same.attempt(lambda one: one.broken()))
            return same.names()

        self.assertEqual(desk.trial(action), ("A", "B", "C"))
        self.assertEqual(seen[0][0][0], "A is a buyer")
        self.assertEqual((whole(desk), history(desk)), before)

    def test_left_ahead_of_the_end(self):
        desk = Desk(2, TEXT)
        for _ in range(3):
            with desk as tried:
                tried.drop("A")
                continue
        self.assertEqual(desk.names(), ("A", "B", "C"))
        self.fails(NothingToUndo, [], desk.undo)

    def test_errors_of_promises_at_once(self):
        """Also where no promises are looked at."""
        desk = Desk(2, TEXT)
        with desk as tried:
            self.fails(BadText, [1], tried.keep, "?")
            self.fails(NoName, ["X"], tried.keep, "X is a buyer")
            self.fails(NoBuyer, [], tried.keep, "1,1 clears 1,1 for C")
            tried.keep("C is a buyer")
            self.assertEqual(tried.promises(), ("C is a buyer",))


class Questions(Desks):
    def test_gain(self):
        desk = Desk(2, TEXT)
        self.assertEqual(desk.ask("A at 1,1/4"), "17/4")
        self.assertEqual(desk.ask("  C   at  0,1/2 "), "-1")
        self.assertEqual(desk.ask("A at 9,9"), "0")
        self.assertEqual(desk.ask("A at 3/6,0/5"), ratio_text(gain(A, ((1, 2), 0))))

    def test_worth(self):
        desk = Desk(2, TEXT)
        self.assertEqual(desk.ask("A wants 1,1"), "7/2")
        self.assertEqual(desk.ask(" A  wants   9,0"), "6")
        self.assertEqual(desk.ask("B wants 0,0"), "0")
        self.assertEqual(desk.ask("B wants 12345678901234567890,0"), ratio_text(worth(B, (10 ** 19, 0))))

    def test_least(self):
        desk = Desk(2, TEXT)
        self.assertEqual(desk.ask("least 1,1 for A"), "3,0")
        self.assertEqual(desk.ask("  least  3,0  for  A   B "), "0,1/2")
        for names, lists in (("A B A", [A, B, A]), ("B B", [B, B])):
            for supply in ((0, 0), (1, 1), (4, 0)):
                told = desk.ask(f"least {supply[0]},{supply[1]} for {names}")
                self.assertEqual(told, ",".join(map(ratio_text, least_prices(Market(lists, supply)))))
        self.assertEqual(Desk(1, "list A\n1 x 1/3\n1 x 7").ask("least 1 for A"), "1/3")

    def test_errors(self):
        desk = Desk(2, TEXT)
        self.fails(BadText, [0], desk.ask, None)
        self.fails(BadText, [1], desk.ask, "")
        self.fails(BadText, [7], desk.ask, "X at 1")
        self.fails(NoName, ["X"], desk.ask, "X at 1,1")
        self.fails(NoName, ["X"], desk.ask, "X wants 1,1")
        self.fails(NoName, ["X"], desk.ask, "least 1,1 for C X Y")
        self.fails(NoBuyer, [], desk.ask, "C wants 1,1")
        self.fails(NoBuyer, [], desk.ask, "least 1,1 for A C")
        self.assertEqual(desk.ask("C at 1/2,1/2"), "-1/2")


class Plain:
    """A desk by the words of points 93 and 94, with all of its states copied."""

    def __init__(self):
        self.frames = [[[], [], []]]
        self.items, self.vows = {}, []

    def state(self):
        return dict(self.items), list(self.vows)

    def take(self, state):
        self.items, self.vows = dict(state[0]), list(state[1])

    def edit(self, change):
        before = self.state()
        change()
        self.made(before)

    def made(self, before):
        if len(self.frames) == 1 and not all(self.holds(vow) for vow in self.vows):
            self.take(before)
            raise NotKept(0, 0)
        self.frames[-1][0].append(before)
        self.frames[-1][1] = []

    def holds(self, vow):
        words = vow.split(" ")
        if words[1] == "is":
            return is_buyer(self.items[words[0]])
        return self.items[words[0]] == self.items[words[2]]

    def move(self, there, back):
        if not self.frames[-1][there]:
            raise [NothingToUndo, NothingToRedo][there]()
        self.frames[-1][back].append(self.state())
        self.take(self.frames[-1][there].pop())


class Random(Desks):
    """Both desks are always alike."""

    def setUp(self):
        self.rng = random.Random(93)

    def same(self, desk, plain):
        self.assertEqual(list(desk.names()), list(plain.items))
        self.assertTrue(all(desk.get(name) == plain.items[name] for name in plain.items))
        self.assertEqual(list(desk.promises()), plain.vows)

    def both(self, desk, plain, one, other):
        errors = []
        for call in (one, other):
            try:
                call()
            except BidError as error:
                errors.append(error.__class__)
            else:
                errors.append(None)
        self.assertEqual(errors[0], errors[1])
        self.same(desk, plain)

    def step(self, desk, plain, depth):
        rng = self.rng
        name, new = rng.choice("ABCD"), rng.choice("ABCD")
        vow = rng.choice([f"{name} is a buyer", f"{name} alike {new}"])
        weight, number = rng.choice([1, 1, 1, 2, -1]), rng.randint(1, 2)
        choice = rng.choice(["put"] * 4 + ["drop", "rename", "keep", "keep", "release", "undo", "undo", "redo", "redo",
                             "attempt", "trial", "with"])
        if choice == "put":
            self.both(desk, plain, lambda: desk.put(f"list {name}\n{weight} x {number}"),
                      lambda: plain.edit(lambda: plain.items.update({name: Bids(1, [(weight, (number,))])})))
        elif choice == "drop" and name in plain.items:
            self.both(desk, plain, lambda: desk.drop(name), lambda: plain.edit(lambda: self.drop(plain, name)))
        elif choice == "rename" and name in plain.items and new not in plain.items:
            self.both(desk, plain, lambda: desk.rename(name, new),
                      lambda: plain.edit(lambda: self.rename(plain, name, new)))
        elif choice == "keep" and name in plain.items and new in plain.items:
            self.both(desk, plain, lambda: desk.keep(vow),
                      lambda: plain.edit(lambda: vow in plain.vows or plain.vows.append(vow)))
        elif choice == "release" and vow in plain.vows:
            self.both(desk, plain, lambda: desk.release(vow), lambda: plain.edit(lambda: plain.vows.remove(vow)))
        elif choice == "undo":
            self.both(desk, plain, desk.undo, lambda: plain.move(0, 1))
        elif choice == "redo":
            self.both(desk, plain, desk.redo, lambda: plain.move(1, 0))
        elif choice in ("attempt", "trial", "with") and depth < 3:
            self.block(desk, plain, depth, choice)

    def drop(self, plain, name):
        del plain.items[name]
        plain.vows = [vow for vow in plain.vows if name not in vow.split(" ")]

    def rename(self, plain, name, new):
        plain.items = {new if old == name else old: plain.items[old] for old in plain.items}
        plain.vows = [" ".join(new if word == name else word for word in vow.split(" ")) for vow in plain.vows]

    def block(self, desk, plain, depth, choice):
        before = plain.state()
        plain.frames.append([[], []])
        stop = self.rng.random() < 0.3

        def action(same):
            for _ in range(self.rng.randint(0, 5)):
                self.step(same, plain, depth + 1)
            if stop:
                raise Stop()
            return depth

        def run():
            if choice == "with":
                with desk as tried:
                    return action(tried)
            return getattr(desk, choice)(action)

        try:
            self.assertEqual(run(), depth)
            failed = False
        except (Stop, NotKept):
            failed = True
        plain.frames.pop()
        if choice != "attempt" or stop:
            self.assertEqual(failed, stop)
            plain.take(before)
        else:
            try:
                plain.made(before)
                self.assertFalse(failed)
            except NotKept:
                self.assertTrue(failed)
        self.same(desk, plain)

    def test_many_steps(self):
        for _ in range(60):
            desk, plain = Desk(1), Plain()
            for _ in range(60):
                self.step(desk, plain, 0)


if __name__ == "__main__":
    unittest.main()
