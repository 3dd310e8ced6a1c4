"""What rows can come to pick, against all that closed blocks can be."""

import itertools
import unittest

from spareblocks.bands import find_stuck, is_first_always
from spareblocks.drives import Drive
from tests.helper import WORDS, Played, all_names
from tests.samples import some_parts
from tests.walks import walk_all


def due_ones(blocks, pages, names):
    """The living pages of closed blocks with less of them than there is room for names."""
    return [closed for closed in itertools.product(range(pages + 1), repeat=blocks - 1) if sum(closed) < names]


def filled(parts, closed):
    """A drive with these closed blocks, and one that is free."""
    drive = Played(*parts)
    for number, living in enumerate(closed):
        drive.content[number] = [f"n{number}x{at}" for at in range(living)] + [None] * (parts[1] - living)
    drive.closed = list(range(len(closed)))
    drive.free = [len(closed)]
    return drive


def all_rules(pages, most_rows):
    for many in range(most_rows):
        for limits in itertools.product(range(pages + 1), repeat=many):
            for words in itertools.product(WORDS, repeat=many + 1):
                yield tuple(zip(limits + (pages,), words))


class BandsTest(unittest.TestCase):
    def compare(self, parts):
        drive = Drive(*parts)
        dues = due_ones(*parts[:3])
        first = all([filled(parts, closed).picked() == 0 for closed in dues])
        self.assertIs(first, is_first_always(drive), parts)
        stuck = find_stuck(drive)
        if stuck is None:
            self.assertTrue(all([filled(parts, closed).write("x") for closed in dues]), parts)
        else:
            self.assertIn(stuck, dues)
            self.assertFalse(filled(parts, stuck).write("x"), parts)

    def test_all_rules_of_small_drives(self):
        for (blocks, pages), most_rows in (((3, 2), 3), ((3, 3), 2), ((4, 2), 2)):
            for names in all_names(blocks, pages):
                for rows in all_rules(pages, most_rows):
                    self.compare((blocks, pages, names, rows))

    def test_drives_of_many_sizes(self):
        for parts in some_parts(31, 150, 400):
            self.compare(parts)

    def test_all_these_come_with_trims_and_without(self):
        for parts in ((3, 2, 1, ((2, "least"),)), (3, 2, 4, ((2, "most"),)), (3, 3, 4, ((1, "youngest"), (3, "oldest"))),
                      (4, 2, 6, ((2, "least"),)), (4, 2, 5, ((0, "oldest"), (2, "most"))), (4, 3, 3, ((3, "oldest"),))):
            for trims in (True, False):
                found = set()
                for closed, filling in walk_all([parts], trims, may_stick=True):
                    if len(closed) == parts[0] - 1:
                        found |= {closed[:at] + (living - 1,) + closed[at + 1:] for at, living in enumerate(closed)
                                  if living > 0}
                        found |= {closed} if sum(closed) < parts[2] else set()
                self.assertEqual(set(due_ones(*parts[:3])), found)


if __name__ == "__main__":
    unittest.main()
