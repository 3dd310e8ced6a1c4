"""For each condition of certificates, and of claims, one that breaks it alone; and values of all other kinds."""

import unittest

from spareblocks.certificates import certify_at_least, certify_at_most, certify_forces, certify_holds, certify_more
from spareblocks.checker import accepts
from spareblocks.drives import Drive
from tests.helper import EqualToAll, Hostile, integers_of_many_sizes, values_of_many_kinds
from tests.picked import is_due, table_links, walk_picked, weights
from tests.walks import greatest_heights, walk_all

LEAST, OLDEST = Drive.simple(3, 2, 4), Drive.simple(3, 2, 4, "oldest")
MOST = Drive.simple(3, 2, 4, "most")
WRITE, TRIM = ("write", "a"), ("trim", "a")


def writes(*names):
    return tuple(("write", name) for name in names)


class CheckerCase(unittest.TestCase):
    def refuse(self, claim, certificate):
        self.assertIs(False, accepts(claim, certificate))

    def accept(self, claim, certificate):
        self.assertIs(True, accepts(claim, certificate))

    def refuse_items(self, claim, certificate, wrap=lambda rows: rows):
        """Refused without one of the rows, with one twice, and with values of other kinds among them."""
        self.accept(claim, wrap(certificate))
        self.accept(claim, wrap(certificate[::-1]))
        for at, row in enumerate(certificate):
            rest = certificate[:at] + certificate[at + 1:]
            self.refuse(claim, wrap(rest))
            self.refuse(claim, wrap(certificate + (row,)))
            for place in range(len(row)):
                for value in (None, "0", (), [0], Hostile(), "x"):
                    self.refuse(claim, wrap(rest + (row[:place] + (value,) + row[place + 1:],)))
            self.refuse(claim, wrap(rest + (row + (0,),)))
            self.refuse(claim, wrap(rest + (row[:-1],)))
            self.refuse(claim, wrap(rest + (list(row),)))
        for value in values_of_many_kinds() + integers_of_many_sizes():
            self.refuse(claim, wrap(certificate + (value,)))
            if not isinstance(value, tuple):
                self.refuse(claim, wrap(value))
        self.refuse(claim, wrap(list(certificate)))
        self.refuse(claim, wrap(()))


class ClaimsRefusedTest(CheckerCase):
    def right(self):
        yield certify_at_most(LEAST, copies=2, erasures=1)
        yield certify_at_least(LEAST, copies=2, erasures=1)
        yield certify_holds(LEAST, copies=2, erasures=1, drift=1)
        yield certify_forces(LEAST, copies=2, erasures=1, drift=1)
        yield certify_more(OLDEST, LEAST, 1, copies=2, erasures=1)

    def kinds(self, word):
        """What stands at each place of a claim."""
        return {"at most": ("word", "text", "price", "price", "flag", "number", "bottom", "number"),
                "at least": ("word", "text", "price", "price", "flag", "number", "bottom"),
                "holds": ("word", "text", "price", "price", "flag", "drift", "number", "bottom"),
                "forces": ("word", "text", "price", "price", "flag", "drift", "number", "bottom"),
                "more": ("word", "text", "text", "price", "price", "number")}[word]

    def wrong(self, kind):
        other = [value for value in values_of_many_kinds() if kind != "flag" or value is not True and value is not False]
        if kind == "drift":
            return [value for value in other if value is not None] + [0, 4, -1, 10 ** 39, "1", (1,)]
        beyond = {"word": ["at most ", "At least", "hold", "force", "most", "", b"more"], "price": [-1, 10, 10 ** 39, "1"],
                  "flag": [1, 0, 2, "True"], "number": [-1, -(10 ** 39), "1", (1,)], "bottom": [0, -1, "1", (1,)],
                  "text": ["", str(LEAST) + "\n", str(LEAST)[1:], "drive 6 blocks 5 pages 25 names\nany: least",
                           "drive 3 blocks 2 pages 5 names\nany: least", LEAST, (3, 2, 4)]}
        return other + beyond[kind]

    def test_each_wrong_element(self):
        for claim, certificate in self.right():
            self.accept(claim, certificate)
            for place, kind in enumerate(self.kinds(claim[0])):
                for value in self.wrong(kind):
                    self.refuse(claim[:place] + (value,) + claim[place + 1:], certificate)

    def test_two_prices_of_0(self):
        for claim, certificate in self.right():
            place = self.kinds(claim[0]).index("price")
            self.refuse(claim[:place] + (0, 0) + claim[place + 2:], certificate)
            # Also where all weights would be right.
            if claim[0] == "at least":
                self.refuse(claim[:place] + (0, 0, True, 0, 1), certificate)
                self.accept(claim[:place] + (0, 1, True, 0, 1), certificate)

    def test_prices_below_0(self):
        # A ring of one copy and one erasure costs nothing less than 0 at these prices, too.
        way, ring = writes("a", "b", "c", "d"), writes("d")
        for copies, erasures in ((-1, 9), (9, -1), (-1, 2)):
            self.refuse(("at least", str(LEAST), copies, erasures, True, 0, 1), (way, ring))
        self.accept(("at least", str(LEAST), 0, 9, True, 0, 1), (way, ring))

    def test_drifts_beyond_their_bounds(self):
        # If nothing at all could be picked, nothing would be asked for behind the first blocks.
        nodes = [((), (), (0, 0, 0)), ((), (1, 1, 0), (0, 0)), (((2, 0),), (), (0, 0)), (((2, 0),), (1, 1, 0), (0,)),
                 (((2, 0), (2, 0)), (), (0,))]
        moves = ["new"] * 4 + [("write", 0)]
        certificate = tuple((node, move, at - 4) for at, (node, move) in enumerate(zip(nodes, moves)))
        for drift in (0, -1, 4):
            self.refuse(("forces", str(LEAST), 1, 0, True, drift, 1, 1), certificate)

    def test_other_lengths_and_kinds(self):
        for claim, certificate in self.right():
            for many in range(len(claim)):
                self.refuse(claim[:many], certificate)
            self.refuse(claim + (0,), certificate)
            self.refuse(claim + (None,), certificate)
            self.refuse(list(claim), certificate)
            self.refuse((claim,), certificate)
        for value in values_of_many_kinds() + integers_of_many_sizes():
            for other in values_of_many_kinds() + integers_of_many_sizes():
                self.refuse(value, other)

    def test_certificates_of_other_kinds(self):
        deep = ((((((((("a",),),),),),),),),)
        for claim, certificate in self.right():
            for value in values_of_many_kinds() + integers_of_many_sizes() + [deep, (deep, deep), (deep,) * 3, claim]:
                self.refuse(claim, value)
                self.refuse(claim, (value,))
                self.refuse(claim, (value, value))
                self.refuse(claim, (certificate, value))
                self.refuse(claim, (value, certificate))
                self.refuse(claim, ((value, value),))
                self.refuse(claim, ((value, value), (value, value)))
                self.refuse(claim, ((value, value, value),))
                self.refuse(claim, (((value, value), value), ((value, value), value)))

    def test_certificates_for_other_claims(self):
        told = list(self.right())
        for at, (claim, certificate) in enumerate(told):
            for other_at, (other, other_certificate) in enumerate(told):
                self.assertIs(at == other_at, accepts(claim, other_certificate))

    def test_by_name(self):
        claim, certificate = certify_at_most(LEAST)
        self.assertIs(True, accepts(certificate=certificate, claim=claim))

    def test_other_rows_and_sizes(self):
        # A rule matters for rates, and does not for best rates; another size always does.
        for claim, certificate in self.right():
            alike = Drive(3, 2, 4, ((1, "least"), (2, "youngest")))
            if claim[0] in ("holds", "forces"):
                self.accept(claim[:1] + (str(MOST),) + claim[2:], certificate)
                self.accept(claim[:1] + (str(alike),) + claim[2:], certificate)
            self.refuse(claim[:1] + (str(Drive.simple(3, 2, 3)),) + claim[2:], certificate)
            if claim[0] != "more":
                self.refuse(claim[:1] + (str(Drive.simple(4, 2, 4)),) + claim[2:], certificate)


class AtMostTest(CheckerCase):
    def test_rows(self):
        claim, certificate = certify_at_most(Drive(3, 2, 3, ((0, "oldest"), (2, "least"))), copies=1, erasures=3)
        self.refuse_items(claim, certificate)

    def test_a_stand_too_many(self):
        claim, certificate = certify_at_most(LEAST)
        # These have the form of stands, and no load leads there; the last one does not even fit the drive.
        for stand in (((2, 2), (1, 1)), ((0, 0, 0), ()), ((3,), ()), ((), (2, 0)), ((2, 2, 2, 2, 2), (9, 9))):
            self.refuse(claim, certificate + ((stand, 0),))
            self.refuse(claim, certificate + ((stand, 9),))

    def test_stands_of_other_kinds(self):
        claim, certificate = certify_at_most(LEAST)
        for stand in (([0], ()), ((0,), []), ((0,), [1, 1]), (([],), ()), ((0,), (1, [])), ((Hostile(),), ()), ((), Hostile()),
                      ((), (Hostile(), 0)), ({}, ()), ((0,), {}), [(), ()], ((0,), (1,)), ((0,), (1, 1, 1)), ((-1,), ()),
                      ((0,), (1, -1)), ((0,), ((), ())), (("0",), ()), ((None,), ()), ((0,), None), ((),), ((), (), ())):
            self.refuse(claim, certificate + ((stand, 0),))
            self.refuse(claim, ((stand, 0),) + certificate[1:])

    def test_trims_make_stands(self):
        with_trims, without = certify_at_most(LEAST), certify_at_most(LEAST, trims=False)
        self.assertGreater(len(with_trims[1]), len(without[1]))
        self.refuse(with_trims[0], without[1])
        self.refuse(without[0], with_trims[1])

    def test_worths(self):
        for drive in (LEAST, OLDEST, Drive.simple(3, 3, 4)):
            claim, certificate = certify_at_most(drive, copies=1, erasures=2, trims=False)
            self.assertEqual(0, min(worth for stand, worth in certificate))
            # Below 0, though all weights are right; the start above the debt, though all weights are right.
            self.refuse(claim, tuple((stand, worth - 1) for stand, worth in certificate))
            self.refuse(claim, tuple((stand, worth + 1) for stand, worth in certificate))
            self.accept(claim[:7] + (claim[7] + 1,), tuple((stand, worth + 1) for stand, worth in certificate))
            # One alone is too great for a stand before it, or too small for one behind it.
            for at, (stand, worth) in enumerate(certificate):
                self.refuse(claim, certificate[:at] + ((stand, worth + 1000),) + certificate[at + 1:])

    def test_a_write_that_sticks(self):
        # All stands that can be reached, and worths that fit all events that end.
        parts = (3, 2, 4, ((2, "most"),))
        web = walk_all([parts], True, may_stick=True)
        certificate = tuple((stand, 0) for stand in web)
        claim = ("at most", str(MOST), 1, 0, True, 50, 1, 0)
        self.refuse(claim, certificate)
        self.accept(("at most", str(LEAST), 1, 0, True, 50, 1, 0), certificate)

    def test_text_forms(self):
        claim, certificate = certify_at_most(LEAST)
        for text in (str(LEAST).upper(), str(LEAST) + " ", str(LEAST).replace("any", "at most 2"), "x" * 4000):
            self.refuse(claim[:1] + (text,) + claim[2:], certificate)


class AtLeastTest(CheckerCase):
    def claim(self, top, trims=True, drive=LEAST):
        return ("at least", str(drive), 1, 0, trims, top, 1)

    def test_right_ones(self):
        way = writes("a", "b", "c", "d")
        self.accept(self.claim(1), (way, writes("d")))
        self.accept(self.claim(1), (way, writes("d") * 1996))
        self.accept(self.claim(1), (way, (("trim", "d"), ("write", "d"))))
        self.accept(self.claim(0), (writes("a") * 4, writes("a") * 2))
        self.accept(self.claim(0, False), (writes("a") * 4, writes("a") * 2))

    def test_the_ring(self):
        way = writes("a", "b", "c", "d")
        self.refuse(self.claim(0), (way, ()))
        # It does not lead back; and it costs too little.
        self.refuse(self.claim(0), ((), writes("a")))
        self.refuse(self.claim(0), (way, writes("d") + (("trim", "d"),)))
        self.refuse(self.claim(2), (way, writes("d")))
        self.refuse(self.claim(1), (writes("a") * 4, writes("a") * 2))

    def test_no_load(self):
        way = writes("a", "b", "c", "d")
        for ring in (writes("e"), (("trim", "e"), ("write", "e")), writes("d", "E"), (("write",),), (None,), ["d"]):
            self.refuse(self.claim(0), (way, ring))
        self.refuse(self.claim(0), (writes("a", "b", "c", "d", "e"), writes("d")))
        self.refuse(self.claim(0), (list(way), writes("d")))
        self.refuse(self.claim(0), (way, list(writes("d"))))
        self.refuse(self.claim(0), (way, writes("d"), ()))
        self.refuse(self.claim(0), [way, writes("d")])
        self.refuse(self.claim(0), way + writes("d"))

    def test_too_many_events(self):
        way = writes("a", "b", "c", "d")
        self.refuse(self.claim(1), (way, writes("d") * 1997))
        self.refuse(self.claim(1), (way + writes("d") * 1996, writes("d")))
        self.accept(self.claim(1), (way + writes("d") * 1995, writes("d")))

    def test_trims(self):
        way = writes("a", "b", "c", "d")
        self.refuse(self.claim(1, False), (way, (("trim", "d"), ("write", "d"))))
        self.refuse(self.claim(1, False), (way + (("trim", "d"), ("write", "d")), writes("d")))
        self.accept(self.claim(1, False), (way + writes("d"), writes("d")))

    def test_a_write_that_sticks(self):
        self.refuse(self.claim(0, True, MOST), (writes("a", "b", "c", "d"), writes("d")))
        self.accept(self.claim(0, True, MOST), (writes("a") * 4, writes("a") * 2))


class HoldsTest(CheckerCase):
    def test_rows(self):
        for drift in (None, 1):
            claim, (picks, worths) = certify_holds(Drive.simple(3, 2, 2), copies=1, erasures=1, drift=drift)
            self.refuse_items(claim, worths, lambda rows: (picks, rows))
            self.refuse_items(claim, picks, lambda rows: (rows, worths))

    def test_further_picks(self):
        claim, (picks, worths) = certify_holds(LEAST)
        known = dict(picks)
        for due in ((((7, 0), (7, 3)), 9), (((0, 1), (0, 0)), 0), (((2, 0), (2, 0)), 0)):
            self.assertNotIn(due, known)
            self.accept(claim, (picks + ((due, 1),), worths))
            self.accept(claim, (((due, 0),) + picks, worths))
            self.refuse(claim, (picks + ((due, 1), (due, 1)), worths))
            self.refuse(claim, (picks + ((due, 1), (due, 0)), worths))
            for index in (-1, 2, None, "0", (0,)):
                self.refuse(claim, (picks + ((due, index),), worths))
        for due in ((((7, 0),), 0), (((7, 0), (7, 0), (7, 0)), 0), (((7, -1), (7, 0)), 0), (((7, 0), (-7, 0)), 0),
                    (((7, 0), (7, 0)), -1), (((7, 0), (7, 0, 0)), 0), (((7, 0), (7,)), 0), (((7, 0), 7), 0), ((), 0),
                    (((7, 0), (7, 0)),), (((7, 0), (7, 0)), 0, 0), (((7, 0), (7, "0")), 0), (((7, 0), (7, 0)), None),
                    ([(7, 0), (7, 0)], 0), (((7, 0), [7, 0]), 0)):
            self.refuse(claim, (picks + ((due, 0),), worths))

    def worths_for(self, web, table, top):
        """Worths that fit a table with 1 for a copy, as far as its cleanings end."""
        heights = greatest_heights_from(weights(table_links(web, table), 1, 0, top, 1))
        return tuple((node, heights[node]) for node in heights if not is_due(node))

    def test_drifts(self):
        # These picks hold the drift 2, and not 1: all else is right for 1, too.
        web = walk_picked(3, 2, 1, False, 2)
        strict = walk_picked(3, 2, 1, False, 1)
        table = {node: row[-1].label for node, row in web.items() if is_due(node)}
        picks, worths = tuple(table.items()), self.worths_for(web, table, 1)
        text = str(Drive.simple(3, 2, 1))
        self.assertTrue(any([node not in strict for node in table_links(web, table)]))
        self.accept(("holds", text, 1, 0, False, 2, 1, 1), (picks, worths))
        self.accept(("holds", text, 1, 0, False, 3, 1, 1), (picks, worths))
        self.refuse(("holds", text, 1, 0, False, 1, 1, 1), (picks, worths))
        self.refuse(("holds", text, 1, 0, False, None, 1, 1), (picks, worths))

    def test_cleaning_that_never_ends(self):
        web = walk_picked(3, 2, 4, True, None)
        table = dict(certify_holds(LEAST)[1][0])
        full = ((((1, 0), (2, 0)), 0), (((2, 0), (1, 0)), 0), (((0, 0), (2, 0)), 0), (((2, 0), (0, 0)), 0))
        for due in full:
            self.assertIn(due, table)
        claim = ("holds", str(LEAST), 1, 0, True, None, 50, 1)
        self.accept(claim, (tuple(table.items()), tuple((node, 0) for node in web if not is_due(node))))
        # A full block is picked each time: each write that ends has worths that fit.
        for due, index in ((full[0], 1), (full[2], 1)):
            picks = tuple({**table, due: index}.items())
            self.refuse(claim, (picks, tuple((node, 0) for node in web if not is_due(node))))
        # The first of these goes to the end, and then another one is picked: that ends.
        picks = tuple({**table, full[1]: 0}.items())
        self.accept(claim, (picks, tuple((node, 0) for node in web if not is_due(node))))

    def test_worths(self):
        for drift in (None, 2):
            claim, (picks, worths) = certify_holds(Drive.simple(3, 2, 3), copies=1, erasures=1, drift=drift)
            self.assertEqual(0, min(worth for node, worth in worths))
            self.refuse(claim, (picks, tuple((node, worth - 1) for node, worth in worths)))
            self.accept(claim, (picks, tuple((node, worth + 5) for node, worth in worths)))
            self.refuse(claim[:6] + (claim[6] - 1, claim[7]), (picks, worths))
            self.accept(claim[:6] + (claim[6] + 1, claim[7]), (picks, worths))
            for at, (node, worth) in enumerate(worths[1:], start=1):
                self.refuse(claim, (picks, worths[:at] + ((node, worth + 1000),) + worths[at + 1:]))

    def test_worn_stands_too_many(self):
        claim, (picks, worths) = certify_holds(LEAST, drift=1)
        for node in (((), (), (1, 1, 1)), ((), (), (0, 0, 0, 0)), (((2, 0), (2, 0)), (1, 1, 0), ()), ((), (1, 1, 3), (0, 0))):
            self.assertNotIn(node, dict(worths))
            self.refuse(claim, (picks, worths + ((node, 0),)))
        for node in (((), ()), ((), (), (0, 0, 0), ()), ((), (1, 1), (0, 0)), (((2,),), (), (0, 0)), ((), None, (0, 0, 0)),
                     ((), (), None), (None, (), (0, 0, 0)), ((), (), (0, 0, "0")), ((), (), [0, 0, 0]), ((), [], (0, 0, 0)),
                     ([], (), (0, 0, 0)), (([0, 0],), (), (0, 0)), (((0, []),), (), (0, 0)), ((), (1, [], 0), (0, 0)),
                     ((), (), (0, [], 0)), ((Hostile(),), (), (0, 0)), ((), (), (Hostile(), 0, 0)), ((), Hostile(), (0, 0)),
                     (((Hostile(), 0),), (), (0, 0)), (((), {}), (), (0, 0, 0)), ((), (), {}), [(), (), (0, 0, 0)]):
            self.refuse(claim, (picks, worths + ((node, 0),)))
            self.refuse(claim, (picks, ((node, 0),) + worths[1:]))

    def test_trims(self):
        with_trims, without = certify_holds(LEAST), certify_holds(LEAST, trims=False)
        self.refuse(with_trims[0], without[1])
        self.refuse(without[0], with_trims[1])


def greatest_heights_from(links):
    """For each node the greatest sum of gains from there on, at least 0."""
    turned = {node: [] for node in links}
    for node, row in links.items():
        for after, gain, peak in row:
            turned[after].append((node, gain, peak))
    return greatest_heights(turned, list(links))


class ForcesTest(CheckerCase):
    def test_rows(self):
        for drift in (None, 1):
            claim, certificate = certify_forces(Drive.simple(3, 2, 3), copies=1, erasures=1, drift=drift)
            self.refuse_items(claim, certificate)

    def test_worths(self):
        for drift in (None, 2):
            claim, certificate = certify_forces(Drive.simple(3, 2, 3), copies=1, erasures=1, drift=drift)
            self.assertLess(-100, min(worth for node, move, worth in certificate))
            greatest = max(worth for node, move, worth in certificate)
            # Above 0, though all weights are right.
            self.refuse(claim, tuple((node, move, worth - greatest + 1) for node, move, worth in certificate))
            self.accept(claim, tuple((node, move, worth - greatest) for node, move, worth in certificate))
            self.accept(claim, tuple((node, move, worth - 5) for node, move, worth in certificate))
            self.refuse(claim[:6] + (claim[6] + 1, claim[7]), certificate)
            self.accept(claim[:6] + (claim[6] - 1, claim[7]), certificate)
            for at, (node, move, worth) in enumerate(certificate[1:], start=1):
                self.refuse(claim, certificate[:at] + ((node, move, worth - 1000),) + certificate[at + 1:])

    def test_moves(self):
        claim, certificate = certify_forces(LEAST, drift=None)
        for at, (node, move, worth) in enumerate(certificate):
            wrong = ["New", "", "write", "trim", "open", ("new",), ("write",), ("write", 5), ("write", -1), ("write", "0"),
                     ("write", "Open"), ("new", 0), ("trim", 0, 0), ["write", 0], ("write", None), ("write", (0,)),
                     (EqualToAll(), 0), ("write", EqualToAll()), ("write", Hostile()), None, 0, ("Trim", 0), (None, None)]
            closed, filling, free = node
            wrong += [(word, place) for word in ("write", "trim") for place in range(4)
                      if place >= len(closed) or closed[place][0] == 0]
            if not filling or filling[1] == 0:
                wrong += [("write", "open"), ("trim", "open")]
            living = sum(pair[0] for pair in closed) + (filling[1] if filling else 0)
            if living == LEAST.names:
                wrong.append("new")
            for other in wrong:
                self.refuse(claim, certificate[:at] + ((node, other, worth),) + certificate[at + 1:])

    def test_each_kind_of_move(self):
        # One name goes round in the open block, at no price: by new names and trims, or by writes alone.
        text = str(Drive.simple(3, 2, 1))
        nodes = {0: ((), (), (0, 0, 0)), 1: ((), (1, 1, 0), (0, 0)), 2: (((1, 0),), (), (0, 0)),
                 3: (((0, 0),), (1, 1, 0), (0,)), 4: (((0, 0), (1, 0)), (), (0,))}
        moves = {0: "new", 1: ("write", "open"), 2: ("write", 0), 3: ("write", "open"), 4: ("write", 1)}
        certificate = tuple((nodes[at], moves[at], 0) for at in nodes)
        for trims in (True, False):
            self.accept(("forces", text, 1, 0, trims, None, 0, 1), certificate)
        nodes.update({5: ((), (1, 0, 0), (0, 0)), 6: (((0, 0),), (), (0, 0)), 7: (((0, 0),), (1, 0, 0), (0,)),
                      8: (((0, 0), (0, 0)), (), (0,))})
        moves = {0: "new", 1: ("trim", "open"), 5: "new", 2: ("trim", 0), 6: "new", 3: ("trim", "open"), 7: "new",
                 4: ("trim", 1), 8: "new"}
        certificate = tuple((nodes[at], moves[at], 0) for at in nodes)
        self.accept(("forces", text, 1, 0, True, None, 0, 1), certificate)
        self.refuse(("forces", text, 1, 0, False, None, 0, 1), certificate)

    def test_all_picks_count(self):
        # Without what comes by one of two picks: as if only the other one could be picked.
        claim, certificate = certify_forces(LEAST, drift=None)
        nodes = [row[0] for row in certificate]
        self.assertLess(3, len(nodes))
        for node in nodes:
            self.refuse(claim, tuple(row for row in certificate if row[0] != node))

    def test_worn_stands_too_many(self):
        claim, certificate = certify_forces(LEAST, drift=1)
        known = [row[0] for row in certificate]
        for node in (((), (), (1, 1, 1)), ((), (1, 1, 3), (0, 0)), (((0, 0), (0, 0)), (), (0,))):
            if node not in known:
                for move in ("new", ("write", "open"), ("trim", 0)):
                    self.refuse(claim, certificate + ((node, move, 0),))

    def test_drifts(self):
        # Less can be picked within 1 than within 2; a greater drift can have another best rate.
        for drift, other in ((1, 2), (2, 1), (1, None), (None, 1)):
            claim, certificate = certify_forces(Drive.simple(3, 2, 2), erasures=1, drift=drift)
            self.refuse(claim[:5] + (other,) + claim[6:], certificate)

    def test_several_cleanings_in_one_write(self):
        # What goes on behind a full block counts, too, with all it costs.
        for drift in (None, 1, 2):
            claim, certificate = certify_forces(LEAST, copies=1, erasures=2, drift=drift)
            self.accept(claim, certificate)
            if drift:
                self.assertTrue(any([2 in [pair[0] for pair in row[0][0]] for row in certificate]))


class MoreTest(CheckerCase):
    def test_prices(self):
        claim, load = certify_more(OLDEST, LEAST, 2)
        self.assertEqual(2, claim[5])
        self.accept(claim, load)
        self.accept(claim[:5] + (1,), load)
        gap = [more for more in range(30) if accepts(claim[:5] + (more,), load)]
        self.assertEqual(list(range(len(gap))), gap)
        self.refuse(claim[:5] + (len(gap),), load)
        self.refuse((claim[0], claim[2], claim[1]) + claim[3:], load)

    def test_no_load(self):
        claim, load = certify_more(OLDEST, LEAST, 0)
        for value in (list(load), load + (None,), load + (("trim", "zz"),), load + writes("x", "y", "z", "u", "v"), (load,)):
            self.refuse(claim, value)
        last = load[-1][1]
        full = load + (("trim", last), ("write", last)) * 1000
        self.refuse(claim, full[:2001])
        self.assertIs(True, accepts(claim, load + ()))

    def test_trims_are_let(self):
        claim, load = certify_more(OLDEST, LEAST, 0)
        self.accept(claim, load + (("trim", load[-1][1]),))

    def test_writes_that_stick(self):
        load = writes("a", "b", "c", "d", "d")
        self.accept(("more", str(OLDEST), str(LEAST), 1, 0, 1), load)
        self.refuse(("more", str(OLDEST), str(MOST), 1, 0, 0), load)
        self.refuse(("more", str(MOST), str(LEAST), 1, 0, 0), load)

    def test_other_room_for_names(self):
        load = writes("a", "b", "c", "c", "a", "b") + writes("a", "b", "c") * 3
        one, other = Drive.simple(3, 2, 3, "oldest"), Drive.simple(4, 2, 3)
        told = [more for more in range(20) if accepts(("more", str(one), str(other), 1, 0, more), load)]
        self.assertTrue(told)
        self.refuse(("more", str(one), str(Drive.simple(4, 2, 4)), 1, 0, 0), load)
        self.refuse(("more", str(OLDEST), str(other), 1, 0, 0), load)


if __name__ == "__main__":
    unittest.main()
