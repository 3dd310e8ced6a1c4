import unittest

from spareblocks.climbing import climb
from spareblocks.drifts import drift, drift_load
from spareblocks.drives import Drive
from spareblocks.errors import Sticks
from spareblocks.wearing import Wear
from tests.samples import small_parts, some_parts
from tests.walks import Sticking, fewest_events, first_node, greatest_heights, play, walk_all


def gains(erased, first, second):
    """What the erasures of the first block are more than those of the second one: behind all, and at most."""
    sums = [0]
    for number in erased:
        sums.append(sums[-1] + (number == first) - (number == second))
    return sums[-1], max(sums)


def wear_links(web):
    """Links between triples of a stand and the places of two blocks in the row of all blocks."""
    found = {}
    for stand, links in web.items():
        for link in links:
            before, after = link.rows
            for at, first in enumerate(before):
                for other_at, second in enumerate(before):
                    if first != second:
                        gain, peak = gains(link.erased[0], first, second)
                        behind = (link.after, after.index(first), after.index(second))
                        found.setdefault((stand, at, other_at), []).append((behind, gain, peak))
    return found


def start_nodes(web, blocks):
    return [(first_node(web), first, second) for first in range(blocks) for second in range(blocks) if first != second]


def told_drift(links, starts):
    """The greatest height at any time, None if there is none."""
    heights = greatest_heights(links, starts)
    if heights is None:
        return None
    return max(heights[node] + peak for node in heights for after, gain, peak in links[node])


def differences(parts, load):
    """For each event the greatest difference of the erasures of two blocks at any time of it."""
    counts = [0] * parts[0]
    told = []
    for word, copied, erased in play(parts, load):
        greatest = max(counts) - min(counts)
        for number in erased:
            counts[number] += 1
            greatest = max(greatest, max(counts) - min(counts))
        told.append(greatest)
    return told


class Made:
    """A web that no drive has: for each number the picks of one write, and the number behind it."""

    def __init__(self, *growths):
        self.trims = False
        self.stands = [None] * len(growths)
        self.reached = list(range(len(growths)))
        self.grounds = [[] for number in self.reached]
        self.growths = [(after, 0, len(picks), picks) for after, picks in growths]


class MadeTest(unittest.TestCase):
    """No drive has another drift than 1 or None, so that loads to others are tested on webs that are made for it."""

    def check(self, shortest, *growths):
        for goal, many in enumerate(shortest, start=1):
            walk = climb(Wear(Made(*growths), 3), goal)
            self.assertEqual(None if many is None else [("write", None)] * many, walk)

    def test_two_blocks_take_turns_once(self):
        # Of a, b, c are erased b, c, b, and from then on each in its turn.
        self.check([1, 1, None], (1, (1, 1, 1)), (1, (0, 0, 0)))
        self.check([1, 1, 2, None], (1, (1, 1, 1)), (2, (1, 1)), (2, (0, 0, 0)))

    def test_a_difference_within_a_write(self):
        # The block that was left out is the last one to be erased in the same write.
        self.check([1, 1, None], (1, (1, 1, 1, 0)), (1, (0, 0, 0)))
        self.check([1, None], (1, (0, 0, 0)), (1, (0, 0, 0)))
        self.check([2, None], (1, ()), (0, (0, 0, 0)))

    def test_a_difference_that_comes_again_and_again(self):
        self.check([1, 1, 2, 2, 3, 3], (0, (1, 1, 1, 1)))
        self.check([2, 2, 4, 4], (1, ()), (0, (1, 1, 1, 1)))

    def test_no_erasure(self):
        self.check([None], (1, ()), (0, ()))


class DriftsTest(unittest.TestCase):
    def check(self, parts, trims, mores):
        """The drift, -1 if a write sticks."""
        drive = Drive(*parts)
        try:
            web = walk_all([parts], trims)
        except Sticking:
            self.check_sticks(drive, trims)
            return -1
        links, starts = wear_links(web), start_nodes(web, parts[0])
        expected = told_drift(links, starts)
        found = drift(drive, trims=trims)
        self.assertEqual((expected, type(expected)), (found, type(found)))
        for more in mores:
            load = drift_load(drive, more, trims=trims)
            if expected is not None and expected <= more:
                self.assertIsNone(load)
            else:
                self.check_load(parts, trims, more, load)
                self.assertEqual(fewest_events(links, starts, more + 1), len(load))
        return found

    def check_load(self, parts, trims, more, load):
        told = differences(parts, load)
        self.assertGreater(told[-1], more)
        self.assertTrue(all(number <= more for number in told[:-1]))
        self.assertTrue(trims or all(word == "write" for word, name in load))

    def check_sticks(self, drive, trims):
        for call in (lambda: drift(drive, trims=trims), lambda: drift_load(drive, 0, trims=trims),
                     lambda: drift_load(drive, 20, trims=trims)):
            with self.assertRaises(Sticks) as caught:
                call()
            self.assertIs(Sticks, type(caught.exception))

    def test_all_small_drives(self):
        found = []
        for at, parts in enumerate(small_parts()):
            for trims in (True, False):
                with self.subTest(parts=parts, trims=trims):
                    found.append(self.check(parts, trims, (0, 1, 2, 3, 5) + ((7, 20) if at % 4 == 0 else ())))
        for value in (-1, None, 1):
            self.assertIn(value, found)

    def test_drives_of_many_sizes(self):
        found = []
        for parts in some_parts(2, 50, 150):
            for trims in (True, False):
                with self.subTest(parts=parts, trims=trims):
                    found.append(self.check(parts, trims, (0, 1, 2)))
        self.assertGreater(len([value for value in found if value != -1]), 60)

    def test_some_larger_drives(self):
        for parts in ((4, 3, 8, ((1, "oldest"), (3, "oldest"))), (5, 3, 6, ((3, "oldest"),)),
                      (4, 4, 6, ((0, "least"), (4, "oldest")))):
            for trims in (True, False):
                with self.subTest(parts=parts, trims=trims):
                    self.check(parts, trims, (0, 1, 2))

    def test_every_more(self):
        for parts in ((3, 2, 3, ((2, "least"),)), (3, 2, 4, ((0, "youngest"), (2, "least"))),
                      (4, 2, 3, ((0, "most"), (2, "oldest")))):
            for trims in (True, False):
                with self.subTest(parts=parts, trims=trims):
                    self.check(parts, trims, range(21))

    def test_examples_of_the_interface(self):
        self.assertIsNone(drift(Drive.simple(3, 2, 3)))
        # Who picks the block that was closed first each time holds the drift 1 ([13]).
        for blocks, pages in ((3, 2), (4, 3), (6, 2)):
            self.assertEqual(1, drift(Drive.simple(blocks, pages, pages, "oldest")))

    def test_the_first_erasure(self):
        for parts in ((3, 2, 1, ((2, "oldest"),)), (4, 3, 4, ((3, "least"),)), (6, 2, 3, ((2, "oldest"),))):
            load = drift_load(Drive(*parts), 0)
            self.assertEqual((parts[0] - 1) * parts[1] + 1, len(load))

    def test_by_name_and_defaults(self):
        drive = Drive(3, 3, 5, ((1, "oldest"), (3, "least")))
        self.assertEqual(drift(drive, trims=True), drift(drive=drive))
        self.assertEqual(drift_load(drive, 3, trims=True), drift_load(more=3, drive=drive))
        # Here a load with trims is shorter.
        drive = Drive(3, 3, 6, ((0, "most"), (3, "oldest")))
        self.assertEqual((10, 11), (len(drift_load(drive, 1)), len(drift_load(drive, 1, trims=False))))

    def test_equal_arguments_give_equal_results_and_nothing_changes(self):
        parts = (3, 3, 5, ((1, "oldest"), (3, "least")))
        drive = Drive(*parts)
        for trims in (True, False):
            self.assertEqual(drift(drive, trims=trims), drift(Drive(*parts), trims=trims))
            self.assertEqual(drift_load(drive, 2, trims=trims), drift_load(Drive(*parts), 2, trims=trims))
        self.assertEqual(parts, (drive.blocks, drive.pages, drive.names, drive.rows))


if __name__ == "__main__":
    unittest.main()
