import random
import unittest

from spareblocks.best import best_rate, is_best
from spareblocks.books import Book
from spareblocks.comparing import never_more, worse_load
from spareblocks.drives import Drive
from spareblocks.errors import (Broken, InUse, InvalidClaim, InvalidIndex, InvalidName, NotADrive, NotAsked, NothingToUndo,
                                OtherNames, Sticks, TooMany, UnknownName)
from spareblocks.rates import rate
from tests.helper import Hostile, integers_of_many_sizes, values_of_many_kinds

LEAST, OLDEST, MOST = [Drive.simple(3, 2, 4, word) for word in ("least", "oldest", "most")]
# It costs what the first one costs.
ALIKE = Drive(3, 2, 4, ((0, "oldest"), (1, "oldest"), (2, "oldest")))
# What cannot be asked has another room for names, a write that sticks (as MOST), or too many stands.
OTHER = Drive.simple(3, 2, 3)
HUGE = Drive.simple(5, 4, 9)
WIDE, WIDE_OLDEST = Drive.simple(4, 3, 8), Drive.simple(4, 3, 8, "oldest")


def state(book):
    return book.titles, tuple(str(book[title]) for title in book.titles), book.claims, book.changes, len(book)


class BooksCase(unittest.TestCase):
    def refused(self, book, error_class, call, **attributes):
        """The call raises this error and changes nothing."""
        before = state(book)
        with self.assertRaises(error_class) as caught:
            call()
        error = caught.exception
        self.assertIs(error_class, type(error))
        self.assertEqual(set(attributes), set(vars(error)))
        for name, value in attributes.items():
            if name == "given":
                self.assertIs(value, error.given)
            else:
                self.assertEqual((value, type(value)), (getattr(error, name), type(getattr(error, name))))
        self.assertEqual(before, state(book))
        return error

    def put(self, book, name, drive):
        book[name] = drive


class BooksTest(BooksCase):
    def test_at_first(self):
        book = Book()
        self.assertEqual(((), (), (), 0, 0), state(book))
        self.assertIs(True, bool(book))
        self.refused(book, NothingToUndo, book.undo)
        self.assertNotEqual(Book(), Book())
        self.assertEqual(book, book)

    def test_putting_reading_replacing_and_removing(self):
        book = Book()
        book["b"] = LEAST
        book["a9"] = OLDEST
        self.assertEqual((("a9", "b"), 2, 2), (book.titles, len(book), book.changes))
        self.assertIs(LEAST, book["b"])
        book["b"] = MOST
        self.assertIs(MOST, book["b"])
        book["b"] = MOST
        self.assertEqual((2, 4), (len(book), book.changes))
        self.assertIsNone(book.remove("b"))
        self.assertEqual((("a9",), 5), (book.titles, book.changes))
        self.refused(book, UnknownName, lambda: book["b"], given="b")
        self.refused(book, UnknownName, lambda: book.remove(name="b"), given="b")
        self.assertIs(True, bool(book))

    def test_in(self):
        book = Book()
        book["a"] = LEAST
        self.assertIs(True, "a" in book)
        for value in values_of_many_kinds() + integers_of_many_sizes() + ["b", "A", ("a",), ["a"], LEAST, Hostile(), {"a": 1}]:
            self.assertIs(False, value in book)
            self.assertIs(True, value not in book)

    def test_wrong_names(self):
        book = Book()
        wrong = ["", "A", "0", "a b", "a_", "abcdefghi", "a\n", "a-", ("a",), ["a"], b"a"]
        for name in values_of_many_kinds() + integers_of_many_sizes() + wrong:
            if isinstance(name, str) and name in ("least", "drive"):
                continue
            self.refused(book, InvalidName, lambda: self.put(book, name, LEAST), given=name)
            # The name is checked first.
            self.refused(book, InvalidName, lambda: self.put(book, name, None), given=name)
            self.refused(book, UnknownName, lambda: book[name], given=name)
            self.refused(book, UnknownName, lambda: book.remove(name), given=name)
        for name in ("a", "z", "abcdefgh", "a1234567", "z0"):
            book[name] = LEAST

    def test_no_drive(self):
        book = Book()
        book["a"] = LEAST
        for value in values_of_many_kinds() + integers_of_many_sizes() + [str(LEAST), (LEAST,), Drive]:
            self.refused(book, NotADrive, lambda: self.put(book, "a", value), given=value)

    def test_unknown_names_of_any_kind(self):
        book = Book()
        book["a"] = LEAST
        for name in values_of_many_kinds() + integers_of_many_sizes() + ["b", "aa"]:
            self.refused(book, UnknownName, lambda: book[name], given=name)
            self.refused(book, UnknownName, lambda: book.remove(name), given=name)
            self.refused(book, UnknownName, lambda: book.claim(("best", name)), given=name)
            self.refused(book, UnknownName, lambda: book.claim(("rate", name, 0, 1)), given=name)
            self.refused(book, UnknownName, lambda: book.claim(("never more", name, name)), given=name)
            self.refused(book, UnknownName, lambda: book.claim(("never more", "a", name)), given=name)
            self.refused(book, UnknownName, lambda: book.claim(("never more", name, Hostile())), given=name)

    def test_not_iterated(self):
        self.assertRaises(TypeError, iter, Book())


class ClaimsTest(BooksCase):
    def filled(self):
        book = Book()
        for name, drive in (("least", LEAST), ("oldest", OLDEST), ("other", OTHER), ("most", MOST), ("huge", HUGE),
                            ("wide", WIDE), ("wideold", WIDE_OLDEST), ("alike", ALIKE)):
            book[name] = drive
        return book

    def test_claims_of_all_words(self):
        book = self.filled()
        claims = [("rate", "least", 1, 1), ("best", "least"), ("never more", "alike", "least"), ("rate", "oldest", 3, 1),
                  ("rate", "least", 1000, 1000), ("best", "least")]
        for claim in claims:
            self.assertIsNone(book.claim(claim))
        self.assertEqual((tuple(claims), 14), (book.claims, book.changes))

    def test_wrong_forms(self):
        book = self.filled()
        wrong = [("rate", "least", 1), ("rate", "least", 1, 1, 1), ("best",), ("best", "least", 1), ("never more", "least"),
                 ("never more", "least", "least", 1), ("Rate", "least", 1, 1), ("never_more", "least", "least"), ("rate",),
                 ["best", "least"], "best", ("worst", "least"), (b"best", "least"), (("best",), "least"), ("", "least"),
                 ("rate", "least", -1, 1), ("rate", "least", 1001, 1), ("rate", "least", 1, 0), ("rate", "least", 1, 1001),
                 ("rate", "least", 1, -1), ("rate", "least", True, 1), ("rate", "least", 1, True), ("rate", None, "1", 1),
                 ("rate", "least", 1, None), ("rate", "least", (1,), 1), ("rate", "least", Hostile(), 1), (Hostile(), "least"),
                 ("rate", "no", 1, 0), ("at most", "least"), (["best"], "least"), ({}, "least")]
        for value in values_of_many_kinds() + integers_of_many_sizes() + wrong:
            self.refused(book, InvalidClaim, lambda: book.claim(value), given=value)

    def test_bounds_of_rates(self):
        book = self.filled()
        for top, bottom in ((1, 1), (1000, 1), (1000, 1000), (2, 1), (999, 998)):
            book.claim(("rate", "least", top, bottom))
        for top, bottom in ((0, 1), (0, 1000), (1, 2), (999, 1000)):
            self.refused(book, Broken, lambda: book.claim(("rate", "least", top, bottom)), index=5, shown=(1, 1))

    def test_unknown_names_come_in_their_order(self):
        book = self.filled()
        self.refused(book, UnknownName, lambda: book.claim(("never more", "x", "y")), given="x")
        self.refused(book, UnknownName, lambda: book.claim(("never more", "least", "y")), given="y")
        self.refused(book, UnknownName, lambda: book.claim(claim=("best", "x")), given="x")

    def test_claims_that_do_not_hold(self):
        book = self.filled()
        book.claim(("best", "least"))
        self.refused(book, Broken, lambda: book.claim(("rate", "oldest", 1, 2)), index=1, shown=rate(OLDEST))
        self.refused(book, Broken, lambda: book.claim(("best", "oldest")), index=1, shown=best_rate(OLDEST))
        self.assertFalse(is_best(MOST))
        self.refused(book, Broken, lambda: book.claim(("best", "most")), index=1, shown=best_rate(MOST))
        self.assertFalse(never_more(OLDEST, LEAST))
        self.refused(book, Broken, lambda: book.claim(("never more", "oldest", "least")), index=1,
                     shown=worse_load(OLDEST, LEAST))

    def test_claims_that_cannot_be_asked(self):
        book = self.filled()
        book.claim(("best", "least"))
        for claim, cause in ((("rate", "most", 1, 1), Sticks), (("never more", "least", "other"), OtherNames),
                             (("never more", "most", "least"), Sticks), (("never more", "least", "most"), Sticks),
                             (("never more", "wide", "wideold"), TooMany), (("best", "huge"), TooMany)):
            error = self.refused(book, NotAsked, lambda: book.claim(claim), index=1)
            self.assertIs(cause, type(error.__cause__), claim)

    def test_the_limits_of_what_cannot_be_asked(self):
        book = self.filled()
        for claim, limit in ((("never more", "wide", "wideold"), 4000), (("best", "huge"), 1000)):
            error = self.refused(book, NotAsked, lambda: book.claim(claim), index=0)
            self.assertEqual(limit, error.__cause__.limit)

    def test_putting_asks_all_claims_in_their_order(self):
        book = Book()
        book["a"], book["b"], book["c"] = LEAST, LEAST, LEAST
        for claim in (("rate", "c", 1, 1), ("never more", "b", "a"), ("best", "a"), ("rate", "a", 1, 1), ("best", "b")):
            book.claim(claim)
        self.refused(book, Broken, lambda: self.put(book, "a", OLDEST), index=1, shown=worse_load(LEAST, OLDEST))
        self.refused(book, Broken, lambda: self.put(book, "b", OLDEST), index=1, shown=worse_load(OLDEST, LEAST))
        self.refused(book, Broken, lambda: self.put(book, "c", OLDEST), index=0, shown=rate(OLDEST))
        book.lift(1)
        self.refused(book, Broken, lambda: self.put(book, "a", OLDEST), index=1, shown=best_rate(OLDEST))
        self.refused(book, Broken, lambda: self.put(book, "b", OLDEST), index=3, shown=best_rate(OLDEST))
        book.undo()
        for name, index, drive, cause in (("a", 1, OTHER, OtherNames), ("b", 1, MOST, Sticks), ("c", 0, MOST, Sticks),
                                          ("a", 1, MOST, Sticks)):
            error = self.refused(book, NotAsked, lambda: self.put(book, name, drive), index=index)
            self.assertIs(cause, type(error.__cause__))
        # What holds may be put.
        for name in ("a", "b", "c"):
            book[name] = ALIKE
        book["c"] = OTHER
        book["d"] = MOST
        self.assertEqual(5, len(book.claims))

    def test_an_equal_claim_may_stand_twice(self):
        book = Book()
        book["a"] = LEAST
        book.claim(("best", "a"))
        book.claim(("best", "a"))
        self.assertEqual((("best", "a"),) * 2, book.claims)
        book.lift(0)
        self.refused(book, InUse, lambda: book.remove("a"), index=0)

    def test_names_in_use(self):
        book = self.filled()
        for claim in (("rate", "alike", 9, 1), ("never more", "least", "alike"), ("best", "least")):
            book.claim(claim)
        self.refused(book, InUse, lambda: book.remove("alike"), index=0)
        self.refused(book, InUse, lambda: book.remove("least"), index=1)
        book.lift(0)
        self.refused(book, InUse, lambda: book.remove("alike"), index=0)
        book.lift(index=0)
        book.remove("alike")
        self.refused(book, InUse, lambda: book.remove("least"), index=0)
        # The words of claims are no names of drives.
        book["best"] = LEAST
        book.remove("best")

    def test_lifting(self):
        book = self.filled()
        claims = [("rate", "least", top, 1) for top in (1, 2, 3, 4)]
        for claim in claims:
            book.claim(claim)
        for index in values_of_many_kinds() + [-1, 4, 5, 10 ** 39, -(10 ** 39), "0", (0,)]:
            self.refused(book, InvalidIndex, lambda: book.lift(index), given=index)
        self.assertIsNone(book.lift(1))
        self.assertEqual((claims[0], claims[2], claims[3]), book.claims)
        book.lift(2)
        book.lift(0)
        book.lift(0)
        self.refused(book, InvalidIndex, lambda: book.lift(0), given=0)

    def test_what_is_returned_does_not_change(self):
        book = self.filled()
        titles, claims = book.titles, book.claims
        book.claim(("best", "least"))
        book["zzz"] = LEAST
        self.assertEqual(((), 8), (claims, len(titles)))
        self.assertIs(tuple, type(book.claims))
        for name in ("titles", "claims", "changes"):
            with self.assertRaises(AttributeError):
                setattr(book, name, ())


class Replay:
    """A book of the test's own: all its states, one behind the other."""

    def __init__(self):
        self.states = [({}, ())]

    def change(self, drives, claims):
        self.states.append((drives, claims))

    def told(self):
        drives, claims = self.states[-1]
        return tuple(sorted(drives)), tuple(str(drives[name]) for name in sorted(drives)), claims, len(self.states) - 1


class ReplayTest(BooksCase):
    def holds(self, drives, claims):
        for claim in claims:
            told = drives[claim[1]]
            try:
                if claim[0] == "rate" and not rate(told)[0] * claim[3] <= claim[2] * rate(told)[1]:
                    return False
                if claim[0] == "best" and not is_best(told):
                    return False
                if claim[0] == "never more" and not never_more(told, drives[claim[2]]):
                    return False
            except (OtherNames, Sticks, TooMany):
                return False
        return True

    def wished(self, chance, drives, claims):
        """A change: what it is called with, and the drives and claims behind it; None if it is not let."""
        name = chance.choice("abc")
        kind = chance.choice(("put", "put", "claim", "claim", "claim", "lift", "remove"))
        if kind == "put":
            drive = chance.choice((LEAST, LEAST, ALIKE, OLDEST, MOST, OTHER))
            after = ({**drives, name: drive}, claims)
            return (kind, name, drive), after if self.holds(*after) else None
        if kind == "claim":
            claim = chance.choice((("rate", name, chance.randint(0, 3), 1), ("best", name),
                                   ("never more", name, chance.choice("abc"))))
            after = (drives, claims + (claim,))
            known = all([other in drives for other in claim[1:3] if isinstance(other, str)])
            return (kind, claim), after if known and self.holds(*after) else None
        if kind == "lift":
            index = chance.randint(0, 3)
            return (kind, index), (drives, claims[:index] + claims[index + 1:]) if index < len(claims) else None
        free = name in drives and not any([name in claim[1:3] for claim in claims])
        return (kind, name), ({other: drives[other] for other in drives if other != name}, claims) if free else None

    def do(self, book, told):
        if told[0] == "put":
            book[told[1]] = told[2]
        else:
            getattr(book, told[0])(told[1])

    def test_many_changes(self):
        for seed in range(30):
            chance, book, replay = random.Random(seed), Book(), Replay()
            for turn in range(60):
                if chance.random() < 0.2:
                    self.undo(book, replay)
                else:
                    told, after = self.wished(chance, *replay.states[-1])
                    if after is None:
                        with self.assertRaises((Broken, NotAsked, UnknownName, InUse, InvalidIndex)):
                            self.do(book, told)
                    else:
                        self.do(book, told)
                        replay.change(*after)
                self.assertEqual(replay.told(), state(book)[:4])
            while len(replay.states) > 1:
                self.undo(book, replay)
                self.assertEqual(replay.told(), state(book)[:4])
            self.undo(book, replay)

    def undo(self, book, replay):
        if len(replay.states) == 1:
            self.refused(book, NothingToUndo, book.undo)
        else:
            self.assertIsNone(book.undo())
            replay.states.pop()


if __name__ == "__main__":
    unittest.main()
