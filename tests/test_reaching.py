import unittest

from spareblocks.reaching import START, find_next, find_stands
from spareblocks.rules import pick
from tests.helper import WORDS, all_names, all_sizes, played_moves, stands_counted

ENOUGH = 10 ** 6


class Parts:
    """Parts of a drive that need not be few enough for one."""

    def __init__(self, blocks, pages, names, rows):
        self.blocks, self.pages, self.names, self.rows = blocks, pages, names, rows


def rules(pages):
    for word in WORDS:
        yield ((pages, word),)
        for before in WORDS:
            yield ((pages // 2, before), (pages, word))
    yield ((0, "youngest"), (1, "most"), (pages - 1, "oldest"), (pages, "least"))
    yield ((0, "most"), (1, "oldest"), (pages, "most"), (pages, "youngest"))


class ReachingTest(unittest.TestCase):
    def test_moves_are_those_of_a_drive_played_page_by_page(self):
        for blocks, pages in ((3, 2), (3, 3), (4, 2)):
            for names in all_names(blocks, pages):
                for rows in rules(pages):
                    with self.subTest(blocks=blocks, pages=pages, names=names, rows=rows):
                        self.compare(blocks, pages, names, rows)
        self.compare(3, 4, 6, ((1, "most"), (4, "youngest")))
        self.compare(4, 3, 7, ((1, "oldest"), (3, "least")))
        self.compare(5, 2, 6, ((0, "oldest"), (1, "youngest"), (2, "most")))

    def compare(self, blocks, pages, names, rows):
        drive = Parts(blocks, pages, names, rows)
        expected = played_moves(blocks, pages, names, rows)
        found = find_stands(drive, ENOUGH)
        self.assertEqual(sorted(expected), sorted(found))
        for stand in found:
            self.assertEqual(expected[stand], set(find_next(drive, stand)))

    def test_how_many_stands_of_every_size_that_a_drive_can_have(self):
        for blocks, pages in all_sizes():
            for names in all_names(blocks, pages):
                many = stands_counted(blocks, pages, names)
                if many <= 2000:
                    for word in WORDS:
                        stands = find_stands(Parts(blocks, pages, names, ((pages, word),)), 2000)
                        self.assertEqual((many, many), (len(stands), len(set(stands))))

    def test_the_search_ends_beyond_the_limit(self):
        drive = Parts(3, 2, 4, ((2, "least"),))
        self.assertEqual(21, len(find_stands(drive, 21)))
        self.assertGreater(len(find_stands(drive, 20)), 20)
        self.assertEqual([START], find_stands(drive, 0)[:1])

    def test_a_write_that_sticks_leads_nowhere(self):
        drive = Parts(3, 2, 4, ((2, "most"),))
        stand = ((2, 1), ())
        self.assertIn(stand, find_stands(drive, ENOUGH))
        # A new name, and a write of the one in the second block, copy full blocks for ever.
        self.assertEqual({((1, 1), ()), ((2, 0), ()), ((1, 2), ())}, set(find_next(drive, stand)))

    def test_no_write_of_a_new_name_where_there_is_no_room(self):
        stand = ((2,), ())
        self.assertNotIn(((2,), (1, 1)), find_next(Parts(3, 2, 2, ((2, "least"),)), stand))
        self.assertIn(((2,), (1, 1)), find_next(Parts(3, 2, 3, ((2, "least"),)), stand))


class PickTest(unittest.TestCase):
    def test_each_word(self):
        closed = (3, 1, 2, 1, 3, 2)
        for word, place in (("oldest", 0), ("youngest", 5), ("least", 1), ("most", 0)):
            self.assertEqual(place, pick(((3, word),), closed))
        for word, place in (("oldest", 1), ("youngest", 5), ("least", 1), ("most", 2)):
            self.assertEqual(place, pick(((2, word), (3, "oldest")), closed))

    def test_the_first_row_that_finds_a_block(self):
        closed = (3, 2, 2, 3)
        self.assertEqual(2, pick(((0, "oldest"), (1, "least"), (2, "youngest"), (3, "most")), closed))
        self.assertEqual(0, pick(((0, "oldest"), (1, "least"), (3, "most")), closed))
        self.assertEqual(0, pick(((0, "least"), (3, "oldest")), closed))


if __name__ == "__main__":
    unittest.main()
