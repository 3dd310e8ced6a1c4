import math
import unittest

from spareblocks.drives import Drive
from spareblocks.errors import Sticks
from spareblocks.prices import find_rate
from spareblocks.rates import costly_load, debt, longest_write, most_price, rate
from spareblocks.ratios import lowest
from tests.samples import PRICES, small_parts, some_parts
from tests.walks import Sticking, first_node, greatest_heights, play, price_of, walk_all


def has_ring(links):
    """Whether one can go round."""
    waiting = {node: 0 for node in links}
    for node in links:
        for after in links[node]:
            waiting[after] += 1
    free = [node for node in links if waiting[node] == 0]
    done = 0
    while free:
        done += 1
        for after in links[free.pop()]:
            waiting[after] -= 1
            if waiting[after] == 0:
                free.append(after)
    return done < len(links)


def prices_by_writes(web, copies, erasures, most):
    """For each number of writes up to most the greatest price of a load with so many."""
    layer = {first_node(web): 0}
    told = []
    for number in range(most + 1):
        waiting = list(layer)
        while waiting:
            stand = waiting.pop()
            for link in web[stand]:
                if not link.writes and layer.get(link.after, -1) < layer[stand]:
                    layer[link.after] = layer[stand]
                    waiting.append(link.after)
        told.append(max(layer.values()))
        behind = {}
        for stand, price in layer.items():
            for link in web[stand]:
                if link.writes:
                    total = price + link.price(copies, erasures)
                    behind[link.after] = max(total, behind.get(link.after, 0))
        layer = behind
    return told


class Made:
    """A web that no drive has: links (number, copied, writes) by hand; trims are what has no writes."""

    def __init__(self, links):
        self.trims = True
        self.stands = [None] * len(links)
        self.reached = list(range(len(links)))
        self.grounds = [[(at, after) for at, (after, copied, writes) in enumerate(row) if not writes] for row in links]
        grown = [[(after, copied, 0, ()) for after, copied, writes in row if writes] for row in links]
        self.growths = [row[0] if row else None for row in grown]


class MadeTest(unittest.TestCase):
    """No debt but 0 was found for any drive, so that debts are tested on webs that are made for it, too."""

    def found(self, *links):
        told = find_rate(Made(links), 1, 0)
        return lowest(told.top, told.bottom), [lowest(owed, told.bottom) for owed in told.sums]

    def test_a_costly_way_to_a_cheap_ring(self):
        self.assertEqual(((1, 2), [(8, 1), (7, 2), (0, 1), (1, 2)]),
                         self.found([(1, 5, 1)], [(2, 4, 1), (3, 0, 0)], [(3, 0, 1)], [(2, 1, 1)]))

    def test_the_costliest_of_several_rings_and_the_debt_by_trims(self):
        self.assertEqual(((2, 1), [(1, 1), (0, 1), (1, 1), (0, 1)]),
                         self.found([(1, 2, 1), (2, 0, 0)], [(1, 2, 1)], [(3, 3, 1)], [(3, 1, 1), (1, 0, 0)]))

    def test_no_ring_costs_anything(self):
        self.assertEqual(((0, 1), [(7, 1), (4, 1), (0, 1)]), self.found([(1, 3, 1)], [(2, 4, 1)], [(2, 0, 1)]))

    def test_a_debt_that_comes_to_an_end_before_the_ring(self):
        self.assertEqual(((3, 1), [(2, 1), (0, 1), (0, 1)]), self.found([(1, 5, 1)], [(2, 0, 1)], [(2, 3, 1)]))


class RatesTest(unittest.TestCase):
    def fraction(self, pair):
        self.assertIs(tuple, type(pair))
        self.assertEqual([int, int], [type(number) for number in pair])
        self.assertGreaterEqual(pair[0], 0)
        self.assertGreaterEqual(pair[1], 1)
        self.assertEqual(1, math.gcd(*pair))
        return pair

    def check_rate(self, web, drive, copies, erasures, trims):
        top, bottom = self.fraction(rate(drive, copies=copies, erasures=erasures, trims=trims))
        owed, parts = self.fraction(debt(drive, copies=copies, erasures=erasures, trims=trims))
        links = {stand: [(link.after, bottom * link.price(copies, erasures) - top * link.writes, None)
                         for link in web[stand]] for stand in web}
        # No ring costs more than the rate times its writes ..
        sums = greatest_heights(links, [first_node(web)])
        self.assertIsNotNone(sums)
        self.assertEqual(set(web), set(sums))
        # .. some ring costs just that: all its links are as costly as can be. Each ring has a write.
        tight = {stand: [after for after, weight, peak in links[stand] if sums[after] == sums[stand] + weight]
                 for stand in web}
        self.assertTrue(has_ring(tight))
        self.assertEqual(max(sums.values()) * parts, owed * bottom)

    def check_writes(self, web, drive, copies, erasures, trims):
        greatest = max(link.price(copies, erasures) for links in web.values() for link in links if link.writes)
        found = longest_write(drive, copies=copies, erasures=erasures, trims=trims)
        self.assertIs(int, type(found))
        self.assertEqual(greatest, found)

    def check_loads(self, web, parts, drive, copies, erasures, trims, numbers):
        told = prices_by_writes(web, copies, erasures, max(numbers))
        for number in numbers:
            found = most_price(drive, number, copies=copies, erasures=erasures, trims=trims)
            self.assertIs(int, type(found))
            self.assertEqual(told[number], found)
            load = costly_load(drive, number, copies=copies, erasures=erasures, trims=trims)
            words = [word for word, copied, erased in play(parts, load)]
            self.assertEqual(number, words.count("write"))
            self.assertTrue(trims or "trim" not in words)
            self.assertEqual(found, price_of(parts, load, copies, erasures))

    def webs(self, parts):
        """The walks with trims and without; where a write sticks all functions must say so."""
        drive = Drive(*parts)
        for trims in (True, False):
            try:
                yield drive, trims, walk_all([parts], trims)
            except Sticking:
                self.check_sticks(drive, trims)

    def check_sticks(self, drive, trims):
        for function, told in ((rate, ()), (debt, ()), (longest_write, ()), (most_price, (0,)), (most_price, (3,)),
                               (costly_load, (0,)), (costly_load, (500,))):
            for copies, erasures in ((1, 0), (0, 9)):
                with self.assertRaises(Sticks) as caught:
                    function(drive, *told, copies=copies, erasures=erasures, trims=trims)
                self.assertIs(Sticks, type(caught.exception))

    def test_all_small_drives(self):
        done = 0
        for at, parts in enumerate(small_parts()):
            for drive, trims, web in self.webs(parts):
                done += 1
                for turn in (0, 1, at + 2):
                    copies, erasures = PRICES[turn % len(PRICES)]
                    with self.subTest(parts=parts, trims=trims, copies=copies, erasures=erasures):
                        self.check_rate(web, drive, copies, erasures, trims)
                        self.check_writes(web, drive, copies, erasures, trims)
                copies, erasures = PRICES[at % len(PRICES)]
                numbers = (0, 1, 2, 3, 4, 5, 6, 7, 8, 9, 13, 30) + ((499, 500) if at % 3 == 0 else ())
                with self.subTest(parts=parts, trims=trims, copies=copies, erasures=erasures):
                    self.check_loads(web, parts, drive, copies, erasures, trims, numbers)
        self.assertGreater(done, 150)

    def test_drives_of_many_sizes(self):
        done = 0
        for at, parts in enumerate(some_parts(1, 80, 500)):
            for drive, trims, web in self.webs(parts):
                done += 1
                for turn in (at, 4 * at + 1):
                    copies, erasures = PRICES[turn % len(PRICES)]
                    with self.subTest(parts=parts, trims=trims, copies=copies, erasures=erasures):
                        self.check_rate(web, drive, copies, erasures, trims)
                        self.check_writes(web, drive, copies, erasures, trims)
                with self.subTest(parts=parts, trims=trims, copies=copies, erasures=erasures):
                    self.check_loads(web, parts, drive, copies, erasures, trims, (0, 1, 2, 10, 20, 41))
        self.assertGreater(done, 100)

    def test_some_of_the_largest_drives(self):
        for parts in ((5, 4, 10, ((1, "oldest"), (4, "oldest"))), (6, 3, 7, ((3, "least"),)),
                      (4, 5, 15, ((2, "least"), (3, "oldest"), (5, "least"))),
                      (6, 2, 10, ((0, "youngest"), (1, "oldest"), (2, "least")))):
            for drive, trims, web in self.webs(parts):
                with self.subTest(parts=parts, trims=trims):
                    self.check_rate(web, drive, 1, 0, trims)
                    self.check_rate(web, drive, 2, 9, trims)
                    self.check_writes(web, drive, 7, 1, trims)
                    self.check_loads(web, parts, drive, 3, 2, trims, (0, 1, 2, 37))

    def test_five_hundred_writes_of_a_larger_drive(self):
        parts = (4, 3, 8, ((1, "oldest"), (3, "oldest")))
        for drive, trims, web in self.webs(parts):
            self.check_loads(web, parts, drive, 1, 0, trims, (100, 101, 102, 250, 499, 500))

    def test_examples_of_the_interface(self):
        least, oldest = Drive.simple(3, 2, 3), Drive.simple(3, 2, 4, "oldest")
        shown = [rate(least), debt(least), most_price(least, 7), rate(oldest), longest_write(oldest),
                 rate(least, copies=0, erasures=1), rate(Drive.simple(3, 2, 2))]
        self.assertEqual([(1, 1), (0, 1), 3, (3, 1), 3, (1, 1), (0, 1)], shown)

    def test_defaults_are_a_copy_for_1_an_erasure_for_0_and_trims(self):
        for parts in ((3, 2, 4, ((2, "oldest"),)), (4, 3, 7, ((1, "oldest"), (3, "least"))), (3, 3, 2, ((3, "least"),))):
            drive = Drive(*parts)
            told = {"copies": 1, "erasures": 0, "trims": True}
            for function, number in ((rate, ()), (debt, ()), (longest_write, ()), (most_price, (30,)),
                                     (costly_load, (30,))):
                self.assertEqual(function(drive, *number, **told), function(drive, *number))
                self.assertEqual(function(drive, *number), function(drive=drive, **dict(zip(["number"], number))))

    def test_equal_arguments_give_equal_results_and_nothing_changes(self):
        parts = (4, 3, 7, ((1, "oldest"), (3, "least")))
        drive = Drive(*parts)
        for trims in (True, False):
            for function, number in ((rate, ()), (debt, ()), (longest_write, ()), (most_price, (77,)),
                                     (costly_load, (77,))):
                self.assertEqual(function(drive, *number, trims=trims), function(Drive(*parts), *number, trims=trims))
        self.assertEqual(parts, (drive.blocks, drive.pages, drive.names, drive.rows))


if __name__ == "__main__":
    unittest.main()
