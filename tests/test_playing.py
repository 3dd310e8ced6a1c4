import inspect
import random
import unittest

from spareblocks.drives import Drive
from spareblocks.errors import NotADrive
from spareblocks.playing import blocks_of, erased, price, stand, stands, steps
from tests.helper import Played, all_names, all_sizes, stands_counted
from tests.samples import PRICES, small_parts, some_parts
from tests.walks import walk_all


def some_load(chance, parts, most, trims):
    """A load that is let and does not stick, with so many events unless one sticks: pairs (event, told by the play)."""
    drive = Played(*parts)
    told = []
    share = chance.choice((0.05, 0.3, 0.45)) if trims else 0
    while len(told) < most:
        living = drive.living_names()
        fresh = [name for name in ("a", "b7", "zzzzzzzz", "k0k0k0k0", *[f"n{at}" for at in range(30)])
                 if name not in living]
        if living and chance.random() < share:
            event = ("trim", chance.choice(living))
        elif len(living) < parts[2] and (not living or chance.random() < 0.5):
            event = ("write", chance.choice(fresh))
        else:
            event = ("write", chance.choice(living))
        drive.copied, drive.erased = 0, []
        if not drive.copy().do(*event):
            break
        drive.do(*event)
        told.append((event, step_of(drive, event)))
    return drive, tuple(event for event, step in told), [step for event, step in told]


def step_of(drive, event):
    word, name = event
    if word == "trim":
        return None, (), 0
    block = [number for number, pages in enumerate(drive.content) if name in pages][0]
    return block, tuple(drive.erased), drive.copied


def content_of(drive):
    told = []
    for number, pages in enumerate(drive.content):
        state = "free" if number in drive.free else "open" if number == drive.current else "closed"
        told.append((state, tuple(name for name in pages if name is not None)))
    return tuple(told)


class PlayingTest(unittest.TestCase):
    def compare(self, parts, drive, load, expected):
        """Compares all that is told of a load with a drive played page by page."""
        built = Drive(*parts)
        found = list(steps(built, load))
        self.assertEqual(expected, found)
        self.assertEqual({tuple}, {type(step) for step in found} | {type(step[1]) for step in found} | {tuple})
        self.assertEqual(content_of(drive), blocks_of(built, load))
        counts = tuple(sum(step[1].count(number) for step in expected) for number in range(parts[0]))
        self.assertEqual(counts, erased(built, load))
        self.assertEqual(drive.stand(), stand(built, load))
        copied = sum(step[2] for step in expected)
        for copies, erasures in PRICES:
            self.assertEqual(copies * copied + erasures * sum(counts),
                             price(built, load, copies=copies, erasures=erasures))
        self.assertEqual(copied, price(built, load))

    def check(self, chance, parts, most, trims):
        drive, load, expected = some_load(chance, parts, most, trims)
        self.compare(parts, drive, load, expected)
        return len(load)

    def test_small_drives(self):
        chance = random.Random(1)
        for parts in small_parts():
            for trims in (True, False):
                with self.subTest(parts=parts, trims=trims):
                    self.check(chance, parts, 60, trims)

    def test_drives_of_many_sizes(self):
        chance = random.Random(2)
        for parts in some_parts(21, 150, 2000):
            for trims in (True, False):
                with self.subTest(parts=parts, trims=trims):
                    self.check(chance, parts, 200, trims)

    def test_long_loads(self):
        chance = random.Random(3)
        for parts in ((3, 2, 3, ((2, "least"),)), (6, 5, 5, ((1, "youngest"), (5, "least"))),
                      (4, 3, 9, ((0, "most"), (3, "oldest"))), (3, 5, 10, ((5, "oldest"),))):
            for trims in (True, False):
                self.assertEqual(2000, self.check(chance, parts, 2000, trims))

    def test_every_beginning_of_a_load(self):
        chance = random.Random(4)
        parts = (4, 2, 5, ((0, "oldest"), (1, "youngest"), (2, "least")))
        drive, load, expected = some_load(chance, parts, 60, True)
        built = Drive(*parts)
        played = Played(*parts)
        for many, event in enumerate(load):
            self.assertEqual(expected[:many], list(steps(built, load[:many])))
            self.assertEqual((played.stand(), content_of(played)), (stand(built, load[:many]), blocks_of(built, load[:many])))
            played.do(*event)

    def test_no_event(self):
        drive = Drive.simple(3, 2, 3)
        self.assertEqual([], list(steps(drive, ())))
        self.assertEqual((("free", ()),) * 3, blocks_of(drive, ()))
        self.assertEqual(((0, 0, 0), 0, ((), ())), (erased(drive, ()), price(drive, ()), stand(drive, ())))

    def test_cleaning_more_than_once_in_one_write(self):
        drive = Drive.simple(4, 2, 6, "oldest")
        load = tuple(("write", name) for name in ("a", "b", "c", "d", "e", "f", "f"))
        # a and b go to block 3, c and d to block 0, e to block 1, and the new f behind it.
        self.assertEqual((1, (0, 1, 2), 5), list(steps(drive, load))[-1])
        self.assertEqual((("closed", ("c", "d")), ("closed", ("e", "f")), ("free", ()), ("closed", ("a", "b"))),
                         blocks_of(drive, load))
        self.assertEqual(5, price(drive, load))

    def test_steps_is_a_generator_that_raises_with_its_first_element(self):
        told = steps(Drive.simple(3, 2, 3), (("write", "a"),))
        self.assertTrue(inspect.isgenerator(told))
        self.assertEqual((0, (), 0), next(told))
        self.assertRaises(StopIteration, next, told)
        with self.assertRaises(NotADrive):
            next(steps(3, ()))

    def test_by_name(self):
        drive = Drive.simple(3, 2, 3)
        load = (("write", "a"), ("write", "b"), ("write", "a"), ("write", "a"), ("write", "a"))
        for function in (blocks_of, erased, price, stand):
            self.assertEqual(function(drive, load), function(load=load, drive=drive))
        self.assertEqual(list(steps(drive, load)), list(steps(load=load, drive=drive)))
        self.assertEqual(stands(drive), stands(trims=True, drive=drive))
        self.assertRaises(TypeError, price, drive, load, 1)
        self.assertRaises(TypeError, stands, drive, True)

    def test_example_of_the_interface(self):
        drive = Drive.simple(3, 2, 3)
        load = (("write", "a"), ("write", "b"), ("write", "c"), ("write", "b"), ("write", "b"))
        self.assertEqual([(1, (), 0), (1, (), 0), (2, (0,), 1)], list(steps(drive, load))[2:])
        self.assertEqual((("free", ()), ("closed", ("c",)), ("closed", ("a", "b"))), blocks_of(drive, load))
        self.assertEqual(((1, 0, 0), 3), (erased(drive, load), price(drive, load, erasures=2)))
        self.assertEqual(((1, 2), ()), stand(drive, load))


class StandsTest(unittest.TestCase):
    def compare(self, parts, trims):
        expected = tuple(sorted(walk_all([parts], trims, may_stick=True)))
        found = stands(Drive(*parts), trims=trims)
        self.assertEqual(expected, found)
        self.assertIs(tuple, type(found))

    def test_small_drives(self):
        for parts in small_parts():
            for trims in (True, False):
                with self.subTest(parts=parts, trims=trims):
                    self.compare(parts, trims)

    def test_drives_of_many_sizes(self):
        for parts in some_parts(22, 40, 200):
            for trims in (True, False):
                with self.subTest(parts=parts, trims=trims):
                    self.compare(parts, trims)

    def test_the_number_of_each_size(self):
        for blocks, pages in all_sizes():
            for names in all_names(blocks, pages):
                many = stands_counted(blocks, pages, names)
                if many <= 2000:
                    found = stands(Drive.simple(blocks, pages, names))
                    self.assertEqual(many, len(found))
                    self.assertTrue(all(one < other for one, other in zip(found, found[1:])))


if __name__ == "__main__":
    unittest.main()
