"""Loads that are refused by all functions that take one."""

import unittest

from spareblocks.drives import Drive
from spareblocks.errors import InvalidLoad, InvalidPrice, NotADrive
from spareblocks.playing import blocks_of, erased, price, stand, steps
from tests.helper import EqualToAll, Hostile, integers_of_many_sizes, values_of_many_kinds


def stepped(*told, **named):
    return list(steps(*told, **named))


FUNCTIONS = (stepped, blocks_of, erased, price, stand)
WRITE = ("write", "a")


def writes(*names):
    return tuple(("write", name) for name in names)


class LoadsRefusedTest(unittest.TestCase):
    def refused(self, drive, load, index):
        for function in FUNCTIONS:
            with self.assertRaises(InvalidLoad) as caught:
                function(drive, load)
            self.assertIs(InvalidLoad, type(caught.exception))
            self.assertEqual((index, type(index)), (caught.exception.index, type(caught.exception.index)))

    def test_no_tuple(self):
        for value in values_of_many_kinds() + integers_of_many_sizes() + [[WRITE], "write", {WRITE: 1}, iter([WRITE])]:
            if not isinstance(value, tuple):
                self.refused(Drive.simple(3, 2, 3), value, None)

    def test_no_event(self):
        drive = Drive.simple(3, 2, 3)
        wrong = values_of_many_kinds() + integers_of_many_sizes()
        wrong += ["write", ["write", "a"], ("write",), ("write", "a", "b"), ("a", "write"), ("Write", "a"), ("write ", "a"),
                  ("", "a"), ("erase", "a"), (b"write", "a"), (("write",), "a"), (None, "a"), (True, "a"),
                  (EqualToAll(), "a"), (Hostile(), "a"), (["write"], "a"), ({}, "a")]
        for value in wrong:
            self.refused(drive, (value,), 0)
            self.refused(drive, (WRITE, WRITE, value, WRITE), 2)

    def test_no_name(self):
        drive = Drive.simple(3, 2, 3)
        wrong = values_of_many_kinds() + integers_of_many_sizes()
        names = ["", "A", "aB", "0", "0a", "a b", " a", "a ", "a_", "_a", "a-b", "abcdefghi", "a1234567890", "a\n", "\na",
                 "a" * 4000, "{", "`", "a/", "a:", "a.b", ("a",), ["a"], b"a", {"a": 1}]
        for value in [value for value in wrong if not (isinstance(value, str) and value in ("least", "drive"))] + names:
            for word in ("write", "trim"):
                self.refused(drive, ((word, value),), 0)
                self.refused(drive, (WRITE, (word, value)), 1)

    def test_names_that_are_right(self):
        drive = Drive.simple(3, 2, 3)
        for name in ("a", "z", "a0", "z9", "abcdefgh", "a1234567", "zzzzzzzz", "write", "trim", "none"):
            self.assertEqual(("open", (name,)), blocks_of(drive, (("write", name),))[0])

    def test_trims_of_names_that_do_not_live(self):
        drive = Drive.simple(3, 2, 3)
        self.refused(drive, (("trim", "a"),), 0)
        self.refused(drive, (WRITE, ("trim", "b")), 1)
        self.refused(drive, (WRITE, ("trim", "a"), ("trim", "a")), 2)
        self.refused(drive, (WRITE, ("trim", "a"), WRITE, WRITE, ("trim", "a"), WRITE, ("trim", "aa")), 6)

    def test_writes_without_room(self):
        for names in range(1, 5):
            drive = Drive.simple(3, 2, names)
            full = writes(*"abcd"[:names])
            self.refused(drive, full + writes("x"), names)
            self.refused(drive, full + writes("a", "x"), names + 1)
            self.refused(drive, full + (("trim", "a"),) + writes("x", "a"), names + 2)
            self.assertEqual(0, price(drive, full[:names - 1] + writes("x")))

    def test_writes_that_stick(self):
        drive = Drive.simple(3, 2, 4, "most")
        self.refused(drive, writes("a", "b", "c", "d", "d"), 4)
        self.refused(drive, writes("a", "b", "c", "d", "d", "d") + (None,), 4)
        self.refused(drive, writes("a", "b", "c", "c", "d"), 4)
        # Behind a write that goes well, and one that sticks in a later cleaning of the same write.
        self.refused(Drive.simple(3, 2, 4, "youngest"), writes("a", "a", "b", "b", "b", "c", "d"), 6)
        self.refused(Drive(4, 2, 6, ((0, "least"), (2, "most"))), writes("a", "b", "c", "d", "e", "f", "f"), 6)

    def test_the_first_wrong_one_is_told(self):
        drive = Drive.simple(3, 2, 2)
        self.refused(drive, writes("a", "b", "c") + (None,), 2)
        self.refused(drive, writes("a", "b") + (None,) + writes("c"), 2)
        self.refused(drive, (("trim", "a"), None), 0)
        self.refused(drive, (None, ("trim", "a")), 0)

    def test_too_many_events(self):
        drive = Drive.simple(3, 2, 3)
        full = writes("a") * 2000
        self.assertEqual(2000, len(stepped(drive, full)))
        for more in (WRITE, None, ("trim", "b"), Hostile()):
            self.refused(drive, full + (more,), 2000)
            self.refused(drive, full + (more, more), 2000)
        self.refused(drive, full[:1999] + (None, WRITE), 1999)
        self.refused(drive, full[:1999] + (("trim", "b"),) * 3, 1999)

    def test_ahead_of_the_first_step(self):
        told = steps(Drive.simple(3, 2, 3), (WRITE, WRITE, ("trim", "b")))
        with self.assertRaises(InvalidLoad) as caught:
            next(told)
        self.assertEqual(2, caught.exception.index)

    def test_no_drive(self):
        for function in FUNCTIONS:
            for value in values_of_many_kinds() + integers_of_many_sizes() + [str(Drive.simple(3, 2, 3)), Drive]:
                for load in ((), (WRITE,), None, (None,)):
                    with self.assertRaises(NotADrive) as caught:
                        function(value, load)
                    self.assertIs(value, caught.exception.given)

    def test_wrong_prices(self):
        drive = Drive.simple(3, 2, 3)
        for value in values_of_many_kinds() + [-1, 10, 10 ** 39, -(10 ** 39), "1", (1,)]:
            for terms in ({"copies": value}, {"erasures": value}, {"copies": value, "erasures": -1},
                          {"copies": 1, "erasures": value}, {"copies": 0, "erasures": value}):
                with self.assertRaises(InvalidPrice) as caught:
                    price(drive, (WRITE,), **terms)
                self.assertIs(value, caught.exception.given)
        with self.assertRaises(InvalidPrice) as caught:
            price(drive, (WRITE,), copies=0)
        self.assertEqual((0, int), (caught.exception.given, type(caught.exception.given)))
        for copies, erasures in ((0, 9), (9, 0), (9, 9), (0, 1)):
            self.assertEqual(0, price(drive, (WRITE,), copies=copies, erasures=erasures))

    def test_order_of_errors(self):
        drive = Drive.simple(3, 2, 3)
        for function in FUNCTIONS:
            with self.assertRaises(NotADrive):
                function(None, None)
        for copies, erasures in ((10, 0), (0, 0), (True, 1), (1, -1)):
            with self.assertRaises(InvalidLoad):
                price(drive, (None,), copies=copies, erasures=erasures)
            with self.assertRaises(InvalidPrice):
                price(drive, (WRITE,), copies=copies, erasures=erasures)


if __name__ == "__main__":
    unittest.main()
