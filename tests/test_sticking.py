import unittest

from spareblocks.drives import Drive
from spareblocks.sticking import stick_load, sticks
from tests.helper import Played
from tests.samples import small_parts, some_parts
from tests.walks import NAME, links_of, node_of, play


def fewest_before_sticking(parts, trims):
    """The least number of events behind which a write sticks; None if none does."""
    layer = [[Played(*parts)]]
    known = {node_of(layer[0])}
    many = 0
    while layer:
        coming = []
        for drives in layer:
            found = links_of(drives, trims, True)
            if len(found) < len(links_of_all(drives, trims)):
                return many
            for link, twins in found:
                if link.after not in known:
                    known.add(link.after)
                    coming.append(twins)
        layer = coming
        many += 1
    return None


def links_of_all(drives, trims):
    """What events there are, also those that stick: each place once, and a new name if there is room."""
    living = drives[0].living_names()
    places = {drives[0].place(name) for name in living}
    return [0] * (len(places) * (2 if trims else 1) + (len(living) < drives[0].shape[2]))


class SticksTest(unittest.TestCase):
    def check(self, parts, trims):
        drive = Drive(*parts)
        expected = fewest_before_sticking(parts, trims)
        self.assertIs(expected is not None, sticks(drive, trims=trims))
        told = stick_load(drive, trims=trims)
        if expected is None:
            self.assertIsNone(told)
            return False
        self.assertIs(tuple, type(told))
        load, name = told
        self.assertEqual(expected, len(load))
        self.assertTrue(trims or all(word == "write" for word, other in load))
        self.check_sticks(parts, load, name)
        return True

    def check_sticks(self, parts, load, name):
        play(parts, load)
        drive = Played(*parts)
        for word, other in load:
            drive.do(word, other)
        self.assertTrue(NAME.fullmatch(name))
        self.assertTrue(name in drive.living_names() or len(drive.living_names()) < parts[2])
        self.assertFalse(drive.write(name))

    def test_small_drives(self):
        found = [self.check(parts, trims) for parts in small_parts() for trims in (True, False)]
        self.assertTrue(30 < sum(found) < len(found) - 30)

    def test_drives_of_many_sizes(self):
        found = [self.check(parts, trims) for parts in some_parts(24, 80, 120) for trims in (True, False)]
        self.assertTrue(15 < sum(found) < len(found) - 15)

    def test_the_least_room_for_names_that_sticks(self):
        for blocks, pages, rows, least in ((3, 2, ((2, "most"),), 3), (3, 2, ((2, "youngest"),), 3),
                                           (3, 2, ((0, "oldest"), (2, "most")), 4), (5, 4, ((4, "most"),), 5),
                                           (4, 3, ((1, "least"), (3, "youngest")), 8),
                                           (4, 3, ((0, "most"), (1, "oldest"), (3, "most"), (3, "least")), 8)):
            drives = [Drive(blocks, pages, names, rows) for names in range(1, least + 1)]
            self.assertEqual([False] * (least - 1) + [True], [sticks(drive) for drive in drives])
            self.assertEqual(pages * (blocks - 1), len(stick_load(drives[-1])[0]))
            self.check_sticks((blocks, pages, least, rows), *stick_load(drives[-1]))

    def test_no_rule_by_which_an_empty_enough_block_is_found_sticks(self):
        for word in ("oldest", "least"):
            self.assertFalse(sticks(Drive.simple(3, 2, 4, word)))
        for limit in (1, 2):
            self.assertFalse(sticks(Drive(3, 2, 4, ((limit, "oldest"), (2, "most")))))

    def test_example_of_the_interface(self):
        most = Drive.simple(3, 2, 4, "most")
        self.assertEqual([True, 4], [sticks(most), len(stick_load(most)[0])])
        self.assertIs(False, sticks(Drive.simple(3, 2, 4)))
        self.assertIsNone(stick_load(Drive.simple(3, 2, 4, "oldest")))

    def test_by_name(self):
        most = Drive.simple(3, 2, 4, "most")
        self.assertEqual(sticks(most), sticks(trims=True, drive=most))
        self.assertEqual(stick_load(most), stick_load(trims=True, drive=most))
        self.assertRaises(TypeError, sticks, most, True)
        self.assertRaises(TypeError, stick_load, most, True)


if __name__ == "__main__":
    unittest.main()
