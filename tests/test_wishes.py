import unittest

from spareblocks.drives import Drive
from spareblocks.errors import InvalidFlag, InvalidIndex, InvalidNumber, InvalidPrice, NotADrive, Sticks
from spareblocks.rates import rate
from spareblocks.wishes import blocks_for, limits_for
from tests.helper import values_of_many_kinds
from tests.samples import some_parts

TERMS = ({}, {"copies": 2, "erasures": 3, "trims": False}, {"copies": 0, "erasures": 1})
WISHES = ((0, 1), (1, 2), (1, 1), (3, 2), (2, 1), (3, 1), (7, 2), (1000, 1), (1, 1000), (1000, 999))


def rate_or_none(make, terms):
    """The rate of the drive that is made; None if there is no such drive, or if a write can stick."""
    try:
        return rate(make(), **terms)
    except Exception as error:
        if isinstance(error, Sticks) or type(error).__name__ in ("InvalidNames", "InvalidBlocks", "InvalidRows", "TooMany"):
            return None
        raise


def is_at_most(told, wish):
    return told is not None and told[0] * wish[1] <= wish[0] * told[1]


class WishesTest(unittest.TestCase):
    def test_blocks_against_all_numbers(self):
        found = []
        for at, (blocks, pages, names, rows) in enumerate(some_parts(41, 40, 120)):
            drive, terms = Drive(blocks, pages, names, rows), TERMS[at % len(TERMS)]
            rates = {many: rate_or_none(lambda: Drive(many, pages, names, rows), terms) for many in range(3, 7)}
            for wish in WISHES:
                right = [many for many in range(3, 7) if is_at_most(rates[many], wish)]
                expected = right[0] if right else None
                self.assertEqual(expected, blocks_for(drive, *wish, **terms), (str(drive), wish, terms))
                found.append(expected)
        for value in (None, 3, 4, 5, 6):
            self.assertIn(value, found)

    def test_blocks_that_no_drive_of_this_size_has(self):
        # With 3 blocks there is no room for 8 names, with 6 there are too many stands.
        drive = Drive.simple(5, 3, 8)
        told = {many: rate_or_none(lambda: Drive.simple(many, 3, 8), {}) for many in (3, 4, 5, 6)}
        self.assertEqual([True, False, False, True], [told[many] is None for many in (3, 4, 5, 6)])
        self.assertEqual(4, blocks_for(drive, 1000, 1))
        self.assertIsNone(blocks_for(Drive.simple(4, 5, 15), 0, 1))

    def test_blocks_with_which_a_write_sticks_are_left_out(self):
        # The lowest number of blocks sticks, or all of them do.
        drive = Drive(5, 2, 4, ((0, "oldest"), (2, "most")))
        told = [rate_or_none(lambda: drive.with_blocks(many), {}) for many in range(3, 7)]
        self.assertIsNone(told[0])
        expected = [many for many, value in zip(range(3, 7), told) if value is not None]
        self.assertEqual(expected[0], blocks_for(drive, 1000, 1))
        self.assertIsNone(blocks_for(Drive.simple(4, 2, 6, "most"), 1000, 1))

    def test_limits_against_all_limits(self):
        found = set()
        for at, (blocks, pages, names, rows) in enumerate(some_parts(42, 40, 120)):
            drive, terms = Drive(blocks, pages, names, rows), TERMS[at % len(TERMS)]
            for index in range(len(rows) - 1):
                rates = []
                for limit in range(pages + 1):
                    changed = list(rows)
                    changed[index] = (limit, rows[index][1])
                    rates.append(rate_or_none(lambda: Drive(blocks, pages, names, tuple(changed)), terms))
                for wish in WISHES:
                    expected = tuple(limit for limit, told in enumerate(rates) if is_at_most(told, wish))
                    told = limits_for(drive, index, *wish, **terms)
                    self.assertEqual((expected, tuple), (told, type(told)))
                    found.add(len(expected))
        self.assertLessEqual({0, 1, 2, 3}, found)

    def test_limits_with_which_a_write_sticks_are_left_out(self):
        drive = Drive(3, 2, 4, ((0, "oldest"), (2, "most")))
        self.assertEqual((1, 2), limits_for(drive, 0, 1000, 1))
        self.assertEqual((), limits_for(drive, 0, 0, 1))

    def refused(self, function, error_class, given, *told, **named):
        with self.assertRaises(error_class) as caught:
            function(*told, **named)
        self.assertIs(error_class, type(caught.exception))
        self.assertIs(given, caught.exception.given)

    def test_wrong_indexes(self):
        drive = Drive(3, 2, 3, ((0, "oldest"), (1, "least"), (2, "most")))
        self.assertEqual(limits_for(drive, 1, 9, 1), limits_for(index=1, drive=drive, bottom=1, top=9))
        for index in values_of_many_kinds() + [-1, 2, 3, 10 ** 39, -(10 ** 39)]:
            self.refused(limits_for, InvalidIndex, index, drive, index, 1, 1)
        for index in (0, 1, -1):
            self.refused(limits_for, InvalidIndex, index, Drive.simple(3, 2, 3), index, 1, 1)

    def test_wrong_numbers(self):
        drive = Drive(3, 2, 3, ((0, "oldest"), (2, "least")))
        for function, before in ((blocks_for, (drive,)), (limits_for, (drive, 0))):
            for top in values_of_many_kinds() + [-1, 1001, 10 ** 39]:
                self.refused(function, InvalidNumber, top, *before, top, 0)
            for bottom in values_of_many_kinds() + [-1, 0, 1001, 10 ** 39]:
                self.refused(function, InvalidNumber, bottom, *before, 1, bottom, copies=10)
            for top, bottom in ((0, 1), (1000, 1), (0, 1000), (1000, 1000)):
                function(*before, top, bottom)

    def test_other_wrong_arguments_and_their_order(self):
        drive = Drive(3, 2, 3, ((0, "oldest"), (2, "least")))
        for value in values_of_many_kinds() + [3]:
            self.refused(blocks_for, NotADrive, value, value, -1, 0)
            self.refused(limits_for, NotADrive, value, value, 5, -1, 0)
        self.refused(limits_for, InvalidIndex, 1, drive, 1, -1, 0, copies=10)
        for function, before in ((blocks_for, (drive, 1, 1)), (limits_for, (drive, 0, 1, 1))):
            self.refused(function, InvalidPrice, 10, *before, copies=10, erasures=-1, trims=1)
            self.refused(function, InvalidPrice, -1, *before, erasures=-1, trims=1)
            self.refused(function, InvalidPrice, 0, *before, copies=0, erasures=0, trims=1)
            self.refused(function, InvalidFlag, 1, *before, trims=1)
            self.refused(function, InvalidFlag, None, *before, trims=None)
            self.assertRaises(TypeError, function, *before, 1)

    def test_drives_that_stick_are_no_error(self):
        self.assertIsNone(blocks_for(Drive.simple(3, 2, 4, "most"), 0, 1))

    def test_example_of_the_interface(self):
        self.assertEqual([4, 3], [blocks_for(Drive.simple(3, 2, 3), 0, 1), blocks_for(Drive.simple(5, 2, 3), 1, 1)])


if __name__ == "__main__":
    unittest.main()
