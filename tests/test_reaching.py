import unittest

from spareblocks.counting import count_stands
from spareblocks.errors import Sticks
from spareblocks.reaching import START, carry, count_living, find_web, last_place, let_die, write_page
from spareblocks.rules import pick
from spareblocks.webs import find_trims, find_writes
from tests.helper import WORDS, Played, all_names, all_sizes, stands_counted
from tests.walks import Sticking, walk_all


class Parts:
    """Parts of a drive that need not be few enough for one."""

    def __init__(self, blocks, pages, names, rows):
        self.blocks, self.pages, self.names, self.rows = blocks, pages, names, rows


def rules(pages):
    for word in WORDS:
        yield ((pages, word),)
        for before in WORDS:
            yield ((pages // 2, before), (pages, word))
    yield ((0, "youngest"), (1, "most"), (pages - 1, "oldest"), (pages, "least"))
    yield ((0, "most"), (1, "oldest"), (pages, "most"), (pages, "youngest"))


def next_stands(drive, stand):
    """The stands behind single events, with trims."""
    grounds = [ground for place, ground in let_die(stand)]
    room = [stand] if count_living(stand) < drive.names else []
    written = [write_page(drive, ground) for ground in grounds + room]
    return grounds + [told[0] for told in written if told is not None]


def search(drive):
    """All stands that can be reached, with trims, by the single events of the package."""
    known = {START}
    waiting = [START]
    while waiting:
        for after in next_stands(drive, waiting.pop()):
            if after not in known:
                known.add(after)
                waiting.append(after)
    return known


class EventsTest(unittest.TestCase):
    def test_events_are_those_of_a_drive_played_page_by_page(self):
        for blocks, pages in ((3, 2), (3, 3), (4, 2)):
            for names in all_names(blocks, pages):
                for rows in rules(pages):
                    with self.subTest(blocks=blocks, pages=pages, names=names, rows=rows):
                        self.compare(blocks, pages, names, rows)
        self.compare(3, 4, 6, ((1, "most"), (4, "youngest")))
        self.compare(4, 3, 7, ((1, "oldest"), (3, "least")))
        self.compare(5, 2, 6, ((0, "oldest"), (1, "youngest"), (2, "most")))

    def compare(self, *parts):
        drive = Parts(*parts)
        expected = walk_all([parts], True, may_stick=True)
        self.assertEqual(set(expected), search(drive))
        for stand, links in expected.items():
            self.assertEqual({link.after for link in links}, set(next_stands(drive, stand)))

    def test_a_write_that_sticks_leads_nowhere(self):
        drive = Parts(3, 2, 4, ((2, "most"),))
        # A new name, and a write of the one in the second block, copy full blocks for ever.
        self.assertIsNone(write_page(drive, ((2, 1), ())))
        self.assertIsNone(write_page(drive, ((2, 0), ())))
        self.assertEqual((((1, 2), ()), 1, (0,)), write_page(drive, ((1, 1), ())))

    def test_cleaning_more_than_once(self):
        # Two full blocks go round, then the empty one gives room.
        drive = Parts(4, 2, 6, ((2, "oldest"),))
        self.assertEqual((((2, 2), (1, 1)), 4, (0, 0, 0)), write_page(drive, ((2, 2, 0), ())))

    def test_places(self):
        self.assertEqual([(0, ((1, 0, 1), (1, 1))), (2, ((2, 0, 0), (1, 1))), (3, ((2, 0, 1), (1, 0)))],
                         let_die(((2, 0, 1), (1, 1))))
        self.assertEqual((3, 2), (last_place(((2, 0, 1), (1, 1))), last_place(((2, 0, 1), ()))))
        drive = Parts(5, 2, 6, ((2, "oldest"),))
        self.assertEqual([0, 3, 1, 2], [carry(drive, (1,), place) for place in range(4)])
        self.assertEqual([2, 3, 0, 1], [carry(drive, (0, 0), place) for place in range(4)])
        self.assertEqual([0, 1, 2, 3], [carry(drive, (), place) for place in range(4)])


class WebTest(unittest.TestCase):
    def compare(self, trims, *parts):
        drive = Parts(*parts)
        try:
            expected = walk_all([parts], trims)
        except Sticking:
            with self.assertRaises(Sticks):
                find_web(drive, trims)
            return False
        web = find_web(drive, trims)
        self.assertEqual(set(expected), {web.stands[number] for number in web.reached})
        self.assertEqual(len(expected), len(web.reached))
        for number in web.reached:
            found = [("write", web.stands[after], copied, erased, len(picks))
                     for place, after, copied, erased, picks in find_writes(web, number)]
            found += [("trim", web.stands[after], 0, 0, 0) for place, after in find_trims(web, number)]
            links = [(link.word, link.after, link.copied[0], len(link.erased[0]), len(link.erased[0]))
                     for link in expected[web.stands[number]]]
            self.assertEqual(sorted(links), sorted(found))
        return True

    def test_webs_with_trims_and_without(self):
        done = 0
        for blocks, pages in ((3, 2), (3, 3), (4, 2)):
            for names in all_names(blocks, pages):
                for rows in rules(pages):
                    for trims in (True, False):
                        done += self.compare(trims, blocks, pages, names, rows)
        for trims in (True, False):
            self.assertTrue(self.compare(trims, 4, 3, 7, ((1, "oldest"), (3, "least"))))
            self.assertTrue(self.compare(trims, 3, 5, 8, ((2, "youngest"), (5, "oldest"))))
            self.assertTrue(self.compare(trims, 5, 2, 5, ((0, "most"), (1, "youngest"), (2, "least"))))
        self.assertGreater(done, 200)

    def test_picks_move_blocks_and_pages_as_a_drive_played_page_by_page_does(self):
        for rows in (((2, "oldest"),), ((2, "least"),), ((1, "youngest"), (2, "oldest"))):
            drive = Parts(4, 2, 4, rows)
            played = Played(4, 2, 4, rows)
            stand = START
            for name in ("a", "b", "c", "a", "d", "a", "c", "c", "b", "d", "a", "b", "b", "a", "c", "d", "d", "a"):
                places = {other: played.place(other) for other in played.living_names()}
                if name in places:
                    stand = dict(let_die(stand))[places.pop(name)]
                stand, copied, picks = write_page(drive, stand)
                played.write(name)
                self.assertEqual(played.stand(), stand)
                for other, place in places.items():
                    self.assertEqual(played.place(other), carry(drive, picks, place))
                self.assertEqual(played.place(name), last_place(stand))


class CountTest(unittest.TestCase):
    def test_counted_as_the_tests_count(self):
        for blocks, pages in all_sizes():
            for names in all_names(blocks, pages):
                self.assertEqual(stands_counted(blocks, pages, names), count_stands(blocks, pages, names))

    def test_how_many_stands_of_every_size_that_a_drive_can_have(self):
        for blocks, pages in all_sizes():
            for names in all_names(blocks, pages):
                many = count_stands(blocks, pages, names)
                if many <= 2000:
                    for word in WORDS:
                        self.assertEqual(many, len(search(Parts(blocks, pages, names, ((pages, word),)))))

    def test_how_many_stands_with_several_rows(self):
        for blocks, pages in ((3, 2), (3, 5), (4, 3), (5, 2)):
            for names in all_names(blocks, pages):
                for rows in rules(pages):
                    self.assertEqual(count_stands(blocks, pages, names), len(search(Parts(blocks, pages, names, rows))))


class PickTest(unittest.TestCase):
    def test_each_word(self):
        closed = (3, 1, 2, 1, 3, 2)
        for word, place in (("oldest", 0), ("youngest", 5), ("least", 1), ("most", 0)):
            self.assertEqual(place, pick(((3, word),), closed))
        for word, place in (("oldest", 1), ("youngest", 5), ("least", 1), ("most", 2)):
            self.assertEqual(place, pick(((2, word), (3, "oldest")), closed))

    def test_the_first_row_that_finds_a_block(self):
        closed = (3, 2, 2, 3)
        self.assertEqual(2, pick(((0, "oldest"), (1, "least"), (2, "youngest"), (3, "most")), closed))
        self.assertEqual(0, pick(((0, "oldest"), (1, "least"), (3, "most")), closed))
        self.assertEqual(0, pick(((0, "least"), (3, "oldest")), closed))


if __name__ == "__main__":
    unittest.main()
