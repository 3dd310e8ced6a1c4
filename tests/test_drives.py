import itertools
import unittest

from spareblocks.drives import Drive
from spareblocks.errors import InvalidNames
from tests.helper import WORDS, EqualToAll, all_sizes, text_told, values_of_many_kinds


def rules(pages):
    """Rules with one to four rows, with each word in each place and each limit somewhere."""
    for many in range(1, 5):
        for turn in range(4):
            words = [WORDS[(turn + at) % 4] for at in range(many)]
            limits = [(turn + 2 * at) % (pages + 1) for at in range(many - 1)] + [pages]
            yield tuple(zip(limits, words))


def some_parts():
    """Parts of drives of every size, without those that have too many stands."""
    for blocks, pages in all_sizes():
        for names in sorted({1, 2, pages, min(5, pages * (blocks - 1))}):
            for rows in rules(pages):
                yield blocks, pages, names, rows


class DriveTest(unittest.TestCase):
    def check(self, drive, blocks, pages, names, rows):
        self.assertEqual((blocks, pages, names, rows), (drive.blocks, drive.pages, drive.names, drive.rows))
        self.assertIs(tuple, type(drive.rows))
        self.assertEqual(len(rows), len(drive))
        self.assertIs(True, bool(drive))
        self.assertEqual(text_told(blocks, pages, names, rows), str(drive))

    def test_by_position_by_name_and_by_text(self):
        for parts in some_parts():
            with self.subTest(parts=parts):
                blocks, pages, names, rows = parts
                by_position = Drive(blocks, pages, names, rows)
                by_name = Drive(rows=rows, names=names, pages=pages, blocks=blocks)
                read = Drive.read(str(by_position))
                for drive in (by_position, by_name, read):
                    self.check(drive, *parts)
                    self.assertTrue(drive == by_position and by_position == drive)
                    self.assertFalse(drive != by_position or by_position != drive)
                    self.assertIs(Drive, type(drive))

    def test_every_room_for_names(self):
        for blocks, pages in ((3, 2), (3, 5), (4, 3), (5, 3), (6, 2)):
            for names in range(1, pages * (blocks - 1) + 1):
                self.check(Drive.simple(blocks, pages, names), blocks, pages, names, ((pages, "least"),))

    def test_a_row_before_the_last_may_have_any_limit(self):
        drive = Drive(3, 2, 2, ((2, "most"), (0, "least"), (2, "most"), (2, "youngest")))
        self.check(drive, 3, 2, 2, ((2, "most"), (0, "least"), (2, "most"), (2, "youngest")))
        self.assertEqual("any: youngest", str(drive).split("\n")[-1])
        self.assertEqual("at most 2: most", str(drive).split("\n")[1])

    def test_names_also_for_one(self):
        self.assertEqual("drive 3 blocks 2 pages 1 names\nany: least", str(Drive.simple(3, 2, 1)))

    def test_simple(self):
        for blocks, pages in all_sizes():
            self.check(Drive.simple(blocks, pages, 2), blocks, pages, 2, ((pages, "least"),))
            for word in WORDS:
                self.check(Drive.simple(blocks, pages, 2, word), blocks, pages, 2, ((pages, word),))
                by_name = Drive.simple(word=word, names=2, pages=pages, blocks=blocks)
                self.check(by_name, blocks, pages, 2, ((pages, word),))

    def test_read_by_name(self):
        self.assertEqual(Drive.simple(3, 2, 4), Drive.read(text="drive 3 blocks 2 pages 4 names\nany: least"))

    def test_equal_exactly_if_the_texts_are(self):
        drives = [Drive(3, 2, 3, ((0, "most"), (2, "least"))), Drive(4, 2, 3, ((0, "most"), (2, "least"))),
                  Drive(3, 3, 3, ((0, "most"), (3, "least"))), Drive(3, 2, 4, ((0, "most"), (2, "least"))),
                  Drive(3, 2, 3, ((1, "most"), (2, "least"))), Drive(3, 2, 3, ((0, "least"), (2, "least"))),
                  Drive(3, 2, 3, ((0, "most"), (2, "most"))), Drive(3, 2, 3, ((2, "least"),)),
                  Drive(3, 2, 3, ((2, "least"), (2, "least"))), Drive(3, 2, 3, ((2, "most"),))]
        for one, other in itertools.product(drives, drives):
            self.assertIs(str(one) == str(other), one == other)
            self.assertIs(str(one) != str(other), one != other)
            self.assertIs(one is other, one == other)

    def test_never_equals_a_value_of_another_class(self):
        drive = Drive.simple(3, 2, 2)
        alike = [str(drive), (3, 2, 2, ((2, "least"),)), drive.rows, 1, Drive, EqualToAll()]
        for value in values_of_many_kinds() + alike:
            self.assertIs(False, drive == value)
            self.assertIs(True, drive != value)

    def test_a_drive_does_not_change(self):
        drive = Drive.simple(3, 2, 2)
        for name, value in (("blocks", 4), ("pages", 3), ("names", 1), ("rows", ((2, "most"),))):
            with self.assertRaises(AttributeError):
                setattr(drive, name, value)
        self.check(drive, 3, 2, 2, ((2, "least"),))

    def test_two_calls_with_equal_arguments_give_equal_drives(self):
        rows = ((1, "oldest"), (3, "least"))
        one, other = Drive(4, 3, 6, rows), Drive(4, 3, 6, tuple(list(rows)))
        self.assertEqual(one, other)
        self.assertEqual(((1, "oldest"), (3, "least")), rows)


class WithTest(unittest.TestCase):
    def setUp(self):
        self.drive = Drive(4, 3, 6, ((1, "oldest"), (3, "least")))
        self.text = str(self.drive)

    def tearDown(self):
        self.assertEqual(self.text, str(self.drive))
        self.assertEqual((4, 3, 6, ((1, "oldest"), (3, "least"))),
                         (self.drive.blocks, self.drive.pages, self.drive.names, self.drive.rows))

    def test_with_rows(self):
        for rows in rules(3):
            for changed in (self.drive.with_rows(rows), self.drive.with_rows(rows=rows)):
                self.assertIs(Drive, type(changed))
                self.assertEqual(Drive(4, 3, 6, rows), changed)
                self.assertEqual(text_told(4, 3, 6, rows), str(changed))

    def test_with_blocks(self):
        for blocks in (3, 4, 5, 6):
            for changed in (self.drive.with_blocks(blocks), self.drive.with_blocks(blocks=blocks)):
                self.assertIs(Drive, type(changed))
                self.assertEqual(Drive(blocks, 3, 6, self.drive.rows), changed)
                self.assertEqual(text_told(blocks, 3, 6, self.drive.rows), str(changed))

    def test_the_same_again(self):
        self.assertEqual(self.drive, self.drive.with_rows(self.drive.rows))
        self.assertEqual(self.drive, self.drive.with_blocks(4))


class ExamplesTest(unittest.TestCase):
    def test_examples_of_the_interface(self):
        drive = Drive(4, 3, 6, ((1, "oldest"), (3, "least")))
        shown = [str(drive), drive.names, len(drive), Drive.read(str(drive)) == drive,
                 Drive.simple(3, 2, 4, "most").rows]
        self.assertEqual(["drive 4 blocks 3 pages 6 names\nat most 1: oldest\nany: least", 6, 2, True, ((2, "most"),)],
                         shown)
        with self.assertRaises(InvalidNames) as caught:
            Drive(3, 2, 5, ((2, "least"),))
        self.assertEqual(5, caught.exception.given)

    def test_text_of_the_document(self):
        text = "drive 4 blocks 3 pages 6 names\nat most 1: oldest\nany: least"
        self.assertEqual(text, str(Drive.read(text)))
        self.assertEqual(((1, "oldest"), (3, "least")), Drive.read(text).rows)


if __name__ == "__main__":
    unittest.main()
