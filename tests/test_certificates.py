import math
import unittest

from spareblocks.best import best_rate
from spareblocks.certificates import certify_at_least, certify_at_most, certify_forces, certify_holds, certify_more
from spareblocks.checker import accepts
from spareblocks.comparing import excess, worse_load
from spareblocks.drives import Drive
from spareblocks.errors import Sticks, TooMany
from spareblocks.rates import debt, rate
from tests.helper import Played
from tests.picked import is_due, walk_picked
from tests.samples import PRICES, small_parts, some_pairs, some_parts
from tests.walks import NAME, Sticking, fewest_events, first_node, play, price_of, walk_all


class CertificatesTest(unittest.TestCase):
    def check(self, told, expected):
        """The claim is the expected one, a tuple, and is accepted with its certificate."""
        self.assertIs(tuple, type(told))
        claim, certificate = told
        self.assertEqual(expected, claim)
        self.assertEqual([type(part) for part in expected], [type(part) for part in claim])
        self.assertIs(True, accepts(claim, certificate))
        return certificate

    def rates(self, parts, copies, erasures, trims):
        drive = Drive(*parts)
        terms = {"copies": copies, "erasures": erasures, "trims": trims}
        top, bottom = rate(drive, **terms)
        owed = debt(drive, **terms)
        self.assertEqual(0, owed[0] * bottom % owed[1])
        expected = (str(drive), copies, erasures, trims, top, bottom)
        worths = self.check(certify_at_most(drive, **terms), ("at most", *expected, owed[0] * bottom // owed[1]))
        self.assertEqual(set(dict(worths)), set(walk_all([parts], trims)))
        claim = ("at most", *expected, owed[0] * bottom // owed[1])
        if top > 0:
            self.assertFalse(accepts(claim[:5] + (top - 1,) + claim[6:], worths))
        way, ring = self.check(certify_at_least(drive, **terms), ("at least", *expected))
        self.assertFalse(accepts(("at least", *expected[:4], top + 1, bottom), (way, ring)))
        self.assertLessEqual(len(way) + len(ring), 2000)
        self.assertTrue(trims or all(word == "write" for word, name in way + ring))
        self.check_ring(parts, way, ring, copies, erasures, (top, bottom))

    def check_ring(self, parts, way, ring, copies, erasures, expected):
        """Going round once more costs as much as the rate tells."""
        told = play(parts, way + ring)[len(way):]
        price = sum(copies * copied + erasures * len(erased) for word, copied, erased in told)
        writes = sum(word == "write" for word, copied, erased in told)
        parted = math.gcd(price, writes)
        self.assertEqual(expected, (price // parted, writes // parted))
        drive, other = Played(*parts), Played(*parts)
        for word, name in way:
            drive.do(word, name)
        for word, name in way + ring:
            other.do(word, name)
        self.assertEqual(drive.stand(), other.stand())

    def test_rates(self):
        done = 0
        for at, parts in enumerate(small_parts() + some_parts(61, 30, 120)):
            copies, erasures = PRICES[at % len(PRICES)]
            for trims in (True, False):
                try:
                    walk_all([parts], trims)
                except Sticking:
                    for function in (certify_at_most, certify_at_least):
                        self.assertRaises(Sticks, function, Drive(*parts), trims=trims)
                    continue
                with self.subTest(parts=parts, trims=trims):
                    self.rates(parts, copies, erasures, trims)
                    done += 1
        self.assertGreater(done, 150)

    def test_large_drives(self):
        for parts in ((5, 4, 10, ((4, "least"),)), (6, 5, 5, ((5, "oldest"),)), (4, 5, 15, ((2, "youngest"), (5, "least")))):
            for trims in (True, False):
                for certify in (certify_at_most, certify_at_least):
                    self.assertTrue(accepts(*certify(Drive(*parts), copies=3, erasures=1, trims=trims)))

    def best(self, parts, copies, erasures, trims, drift):
        drive = Drive(*parts)
        terms = {"copies": copies, "erasures": erasures, "trims": trims, "drift": drift}
        top, bottom = best_rate(drive, **terms)
        expected = (str(drive), copies, erasures, trims, drift, top, bottom)
        picks, worths = self.check(certify_holds(drive, **terms), ("holds", *expected))
        moves = self.check(certify_forces(drive, **terms), ("forces", *expected))
        if top > 0:
            self.assertFalse(accepts(("holds", *expected[:5], top - 1, bottom), (picks, worths)))
        self.assertFalse(accepts(("forces", *expected[:5], top + 1, bottom), moves))
        self.assertTrue(trims or all(move[0] != "trim" for node, move, worth in moves))
        return len(worths)

    def test_best_rates(self):
        for at, parts in enumerate(small_parts()[::2] + [part for part in some_parts(62, 40, 150)]):
            copies, erasures = PRICES[at % len(PRICES)]
            for drift in (None, 1, 2, 3):
                try:
                    best_rate(Drive(*parts), trims=at % 2 == 0, drift=drift)
                except TooMany:
                    for function in (certify_holds, certify_forces):
                        self.assertRaises(TooMany, function, Drive(*parts), trims=at % 2 == 0, drift=drift)
                    continue
                with self.subTest(parts=parts, drift=drift):
                    self.best(parts, copies, erasures, at % 2 == 0, drift)

    def test_the_most_worn_stands(self):
        # 982 of them can come.
        self.assertEqual(982, len([node for node in walk_picked(3, 3, 6, True, 3) if not is_due(node)]))
        self.best((3, 3, 6, ((3, "most"),)), 1, 0, True, 3)

    def more(self, one, other, more, copies, erasures):
        drives = Drive(*one), Drive(*other)
        told = certify_more(*drives, more, copies=copies, erasures=erasures)
        greatest = excess(*drives, copies=copies, erasures=erasures)
        if greatest is not None and greatest <= more:
            self.assertIsNone(told)
            return 0
        load = self.check(told, ("more", str(drives[0]), str(drives[1]), copies, erasures, more))
        self.assertGreater(price_of(one, load, copies, erasures) - price_of(other, load, copies, erasures), more)
        self.assertEqual(len(worse_load(*drives, more, copies=copies, erasures=erasures)), len(load))
        self.assertTrue(all(NAME.fullmatch(name) for word, name in load))
        return len(load)

    def test_more(self):
        found = []
        for at, (one, other) in enumerate(some_pairs(63, 60, 40)):
            copies, erasures = PRICES[at % len(PRICES)]
            for more in (0, 1, 20):
                try:
                    found.append(self.more(one, other, more, copies, erasures))
                except (Sticks, TooMany):
                    with self.assertRaises((Sticks, TooMany)):
                        worse_load(Drive(*one), Drive(*other), more, copies=copies, erasures=erasures)
        self.assertIn(0, found)
        self.assertGreater(len([many for many in found if many > 0]), 30)

    def test_more_by_a_shortest_load(self):
        one, other = (3, 2, 3, ((2, "oldest"),)), (3, 2, 3, ((2, "least"),))
        web = walk_all([one, other], True)
        links = {node: [(link.after, link.price(1, 0) - link.price(1, 0, 1), link.price(1, 0) - link.price(1, 0, 1))
                        for link in row] for node, row in web.items()}
        for more in (0, 1, 2, 3):
            claim, load = certify_more(Drive(*one), Drive(*other), more)
            self.assertEqual(fewest_events(links, [first_node(web)], more + 1), len(load))

    def test_by_name_and_defaults(self):
        drive, other = Drive.simple(3, 2, 4, "oldest"), Drive.simple(3, 2, 4)
        for function in (certify_at_most, certify_at_least):
            self.assertEqual(function(drive), function(trims=True, erasures=0, copies=1, drive=drive))
        for function in (certify_holds, certify_forces):
            self.assertEqual(function(drive), function(drift=None, trims=True, erasures=0, copies=1, drive=drive))
        self.assertEqual(certify_more(drive, other), certify_more(other=other, one=drive, more=0, copies=1, erasures=0))
        self.assertRaises(TypeError, certify_more, drive, other, 0, trims=True)

    def test_example_of_the_interface(self):
        drive = Drive.simple(3, 2, 4, "oldest")
        most, low, held, forced = [certify(drive) for certify in (certify_at_most, certify_at_least, certify_holds,
                                                                  certify_forces)]
        self.assertEqual([True] * 4, [accepts(*told) for told in (most, low, held, forced)])
        self.assertEqual(((1, 0, True, 3, 1, 0), (1, 0, True, None, 1, 1)), (most[0][2:], held[0][2:]))
        self.assertIsNone(certify_more(drive, drive))


if __name__ == "__main__":
    unittest.main()
