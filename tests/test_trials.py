import random
import unittest

from spareblocks.books import Book
from spareblocks.drives import Drive
from spareblocks.errors import Broken, NothingToUndo
from tests.test_books import LEAST, MOST, OLDEST, state


class Failed(Exception):
    """What a test raises within a trial."""


class TrialsTest(unittest.TestCase):
    def filled(self):
        book = Book()
        book["a"] = LEAST
        book.claim(("best", "a"))
        return book

    def test_a_trial_that_ends_well(self):
        book = self.filled()
        with book.trial() as held:
            self.assertIs(book, held)
            held["b"] = OLDEST
            held.lift(0)
        self.assertEqual((("a", "b"), (), 4), (book.titles, book.claims, book.changes))
        # Its changes are taken back one behind the other.
        book.undo()
        self.assertEqual((("a", "b"), (("best", "a"),), 3), (book.titles, book.claims, book.changes))

    def test_a_trial_that_ends_with_an_exception(self):
        book = self.filled()
        before = state(book)
        for error in (Failed("x"), KeyError("a"), Broken(1, 2), KeyboardInterrupt(), StopIteration(), GeneratorExit()):
            with self.assertRaises(type(error)) as caught:
                with book.trial():
                    book["b"] = OLDEST
                    book.claim(("rate", "b", 9, 1))
                    raise error
            self.assertIs(error, caught.exception)
            self.assertEqual(before, state(book))

    def test_an_error_of_the_book_itself(self):
        book = self.filled()
        before = state(book)
        with self.assertRaises(Broken) as caught:
            with book.trial():
                book["c"] = MOST
                book["a"] = OLDEST
        self.assertEqual((0, (1, 1)), (caught.exception.index, caught.exception.shown))
        self.assertEqual(before, state(book))
        # One that is caught within the trial ends nothing.
        with book.trial():
            book["c"] = MOST
            with self.assertRaises(Broken):
                book["a"] = OLDEST
        self.assertEqual((("a", "c"), 3), (book.titles, book.changes))

    def test_trials_within_trials(self):
        book = self.filled()
        with book.trial():
            book["b"] = OLDEST
            with self.assertRaises(Failed):
                with book.trial():
                    book["c"] = OLDEST
                    with book.trial():
                        book["d"] = OLDEST
                    self.assertEqual(("a", "b", "c", "d"), book.titles)
                    raise Failed()
            self.assertEqual(("a", "b"), book.titles)
            with book.trial():
                book["e"] = OLDEST
        self.assertEqual((("a", "b", "e"), 4), (book.titles, book.changes))
        before = state(book)
        with self.assertRaises(Failed):
            with book.trial():
                with book.trial():
                    book["f"] = OLDEST
                raise Failed()
        self.assertEqual(before, state(book))

    def test_one_trial_for_several_statements(self):
        book = self.filled()
        trial = book.trial()
        book["b"] = OLDEST
        before = state(book)
        with self.assertRaises(Failed):
            with trial:
                book["c"] = OLDEST
                with trial:
                    book["d"] = OLDEST
                raise Failed()
        self.assertEqual(before, state(book))
        with trial:
            book["c"] = OLDEST
        self.assertEqual(("a", "b", "c"), book.titles)

    def test_undos_of_older_changes_within_a_trial(self):
        book = self.filled()
        before = state(book)
        with self.assertRaises(Failed):
            with book.trial():
                book.undo()
                book.undo()
                self.assertEqual(0, book.changes)
                self.assertRaises(NothingToUndo, book.undo)
                book["z"] = OLDEST
                raise Failed()
        self.assertEqual(before, state(book))
        with book.trial():
            book.undo()
            book.undo()
            book["z"] = OLDEST
        self.assertEqual((("z",), (), 1), (book.titles, book.claims, book.changes))
        book.undo()
        self.assertRaises(NothingToUndo, book.undo)

    def test_undo_behind_a_trial_that_failed(self):
        book = self.filled()
        with self.assertRaises(Failed):
            with book.trial():
                book["b"] = OLDEST
                raise Failed()
        book.undo()
        self.assertEqual((("a",), (), 1), (book.titles, book.claims, book.changes))

    def test_tried(self):
        book = self.filled()

        def action(held):
            self.assertIs(book, held)
            held["b"] = OLDEST
            return held.titles, held

        titles, held = book.tried(action)
        self.assertIs(book, held)
        self.assertEqual((("a", "b"), 3), (titles, book.changes))
        self.assertIsNone(book.tried(action=lambda told: told.remove("b")))
        before = state(book)
        failure = Failed()

        def failing(held):
            held["c"] = OLDEST
            held.tried(action)
            raise failure

        with self.assertRaises(Failed) as caught:
            book.tried(failing)
        self.assertIs(failure, caught.exception)
        self.assertEqual(before, state(book))

    def test_a_trial_returns_and_breaks_out(self):
        book = self.filled()
        for turn in range(3):
            with book.trial():
                book["b"] = OLDEST
                if turn == 1:
                    break
        self.assertEqual((2, 4), (len(book), book.changes))

    def test_two_books(self):
        one, other = self.filled(), self.filled()
        before = state(one)
        with self.assertRaises(Failed):
            with one.trial(), other.trial():
                one["b"] = Drive.simple(3, 3, 3)
                raise Failed()
        self.assertEqual([before, before], [state(one), state(other)])

    def test_many_trials(self):
        for seed in range(20):
            chance, book = random.Random(seed), Book()
            self.nest(chance, book, 0)

    def nest(self, chance, book, depth):
        """Changes a book in trials within trials; each that fails leaves it as it was."""
        for turn in range(4):
            before = state(book)
            fails = chance.random() < 0.5
            try:
                with book.trial():
                    for name in chance.sample("abcdef", 2):
                        book[name] = OLDEST
                    if book.changes and chance.random() < 0.5:
                        book.undo()
                    if depth < 3:
                        self.nest(chance, book, depth + 1)
                    inside = state(book)
                    if fails:
                        raise Failed()
            except Failed:
                self.assertTrue(fails)
            self.assertEqual(before if fails else inside, state(book))


if __name__ == "__main__":
    unittest.main()
