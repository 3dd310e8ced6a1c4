"""The checker, against judgments of the tests' own, on certificates that are right and on such that were changed."""

import random
import unittest

from spareblocks.certificates import certify_at_least, certify_at_most, certify_forces, certify_holds, certify_more
from spareblocks.checker import accepts
from spareblocks.drives import Drive
from spareblocks.errors import Sticks, TooMany
from tests.certified import right_at_least, right_at_most, right_forces, right_holds, right_more
from tests.samples import PRICES, small_parts

# Moves of certificates "forces", right somewhere or nowhere.
MOVES = ["new", "old", "open", *[(word, place) for word in ("write", "trim") for place in (0, 1, 2, 3, "open", -1)]]


def judged(claim, certificate, parts, other=None):
    """Whether a certificate of the right form is right for a claim about drives with these parts."""
    if claim[0] == "at most":
        return right_at_most(parts, *claim[2:], certificate)
    if claim[0] == "at least":
        return right_at_least(parts, *claim[2:], certificate)
    if claim[0] == "holds":
        return right_holds(parts[:3], *claim[2:], certificate)
    if claim[0] == "forces":
        return right_forces(parts[:3], *claim[2:], certificate)
    return right_more(parts, other, *claim[3:], certificate)


def changed_pairs(chance, pairs):
    """Pairs with one of them changed, left out, twice, or at another place."""
    pairs = list(pairs)
    at = chance.randrange(len(pairs))
    key, worth = pairs[at]
    kind = chance.randrange(6)
    if kind == 0:
        del pairs[at]
    elif kind == 1:
        pairs.insert(chance.randrange(len(pairs)), pairs[at])
    elif kind == 2:
        pairs[at] = (key, worth + chance.choice((-2, -1, 1, 2)))
    elif kind == 3:
        pairs[at] = (pairs[chance.randrange(len(pairs))][0], worth)
    elif kind == 4:
        step = chance.choice((-1, 1, 2))
        pairs = [(other, number + step) for other, number in pairs]
    else:
        chance.shuffle(pairs)
    return tuple(pairs)


def changed_forces(chance, triples):
    pairs = changed_pairs(chance, [((stand, move), worth) for stand, move, worth in triples])
    triples = [(stand, move, worth) for (stand, move), worth in pairs]
    if triples and chance.random() < 0.3:
        at = chance.randrange(len(triples))
        triples[at] = (triples[at][0], chance.choice(MOVES), triples[at][2])
    return tuple(triples)


def changed_load(chance, load):
    load = list(load)
    at = chance.randrange(len(load) + 1)
    kind = chance.randrange(3)
    if kind == 0 and load:
        del load[at - 1]
    elif kind == 1:
        load.insert(at, (chance.choice(("write", "trim")), chance.choice(("n0", "n1", "n2", "x"))))
    elif load:
        load[at - 1] = (chance.choice(("write", "trim")), chance.choice(("n0", "n1", "n2", "x")))
    return tuple(load)


def changed_certificate(chance, word, certificate):
    if word == "at most":
        return changed_pairs(chance, certificate)
    if word == "forces":
        return changed_forces(chance, certificate)
    if word == "more":
        return changed_load(chance, certificate)
    one, other = certificate
    if word == "at least":
        return (changed_load(chance, one), other) if chance.random() < 0.5 else (one, changed_load(chance, other))
    if chance.random() < 0.7:
        return one, changed_pairs(chance, other)
    blocks = len(one[0][0][0]) + 1
    picks = changed_pairs(chance, one)
    return tuple((due, index % (blocks - 1)) for due, index in picks), other


def changed_claim(chance, claim):
    """A claim with another number, never beyond its bounds."""
    claim = list(claim)
    places = {"at most": (2, 3, 5, 6, 7), "at least": (2, 3, 5, 6), "holds": (2, 3, 6, 7), "forces": (2, 3, 6, 7),
              "more": (3, 4, 5)}[claim[0]]
    at = chance.choice(places)
    claim[at] = max(1, claim[at] + chance.choice((-1, 1)))
    if at in ((3, 4) if claim[0] == "more" else (2, 3)):
        claim[at] = min(9, claim[at])
    if claim[0] in ("at most", "at least") and chance.random() < 0.2:
        claim[4] = not claim[4]
    return tuple(claim)


class CheckerTest(unittest.TestCase):
    def setUp(self):
        self.found = {}

    def compare(self, claim, certificate, parts, other=None):
        expected = judged(claim, certificate, parts, other)
        found = accepts(claim, certificate)
        self.assertIs(expected, found, (claim, certificate))
        self.found.setdefault(claim[0], []).append(found)

    def mutate(self, chance, told, parts, many, other=None):
        claim, certificate = told
        self.assertIs(True, accepts(claim, certificate))
        self.compare(claim, certificate, parts, other)
        for turn in range(many):
            kind = chance.randrange(4)
            some = changed_claim(chance, claim) if kind == 0 else claim
            self.compare(some, changed_certificate(chance, claim[0], certificate) if kind else certificate, parts, other)

    def check_found(self, least):
        """Both answers came often enough."""
        for word, answers in self.found.items():
            self.assertLess(least, sum(answers), word)
            self.assertLess(least, len(answers) - sum(answers), word)

    def test_rates(self):
        chance = random.Random(51)
        for at, parts in enumerate(small_parts()):
            copies, erasures = PRICES[at % len(PRICES)]
            for trims in (True, False):
                for certify in (certify_at_most, certify_at_least):
                    try:
                        told = certify(Drive(*parts), copies=copies, erasures=erasures, trims=trims)
                    except Sticks:
                        continue
                    self.mutate(chance, told, parts, 25)
        self.check_found(300)

    def test_best_rates(self):
        chance = random.Random(52)
        for at, sizes in enumerate([(3, 2, 1), (3, 2, 2), (3, 2, 3), (3, 2, 4), (3, 3, 3), (3, 3, 5), (4, 2, 2), (4, 2, 4)]):
            for drift in (None, 1, 2):
                for trims in (True, False):
                    copies, erasures = PRICES[(at + (drift or 0)) % len(PRICES)]
                    for certify in (certify_holds, certify_forces):
                        drive = Drive.simple(*sizes, "most")
                        terms = {"copies": copies, "erasures": erasures, "trims": trims, "drift": drift}
                        try:
                            told = certify(drive, **terms)
                        except TooMany:
                            continue
                        if len(told[1]) < 300:
                            self.mutate(chance, told, (*sizes, drive.rows), 25)
        self.check_found(100)

    def test_more(self):
        chance = random.Random(53)
        for at, one in enumerate(small_parts()):
            for other in ((4, 3, one[2], ((3, "least"),)), (3, 3, one[2], ((3, "least"),))):
                copies, erasures = PRICES[at % len(PRICES)]
                try:
                    told = certify_more(Drive(*one), Drive(*other), at % 3, copies=copies, erasures=erasures)
                except (Sticks, TooMany):
                    continue
                if told is not None:
                    self.mutate(chance, told, one, 20, other)
        self.check_found(100)

    def test_what_is_accepted_is_true(self):
        # The numbers of right certificates for other claims: each claim that says more is refused.
        for parts in ((3, 2, 3, ((2, "least"),)), (3, 3, 5, ((1, "oldest"), (3, "least"))), (4, 2, 5, ((2, "oldest"),))):
            for trims in (True, False):
                terms = {"copies": 2, "erasures": 1, "trims": trims}
                told, certificate = certify_at_most(Drive(*parts), **terms)
                self.assertTrue(accepts(told, certificate))
                top, bottom, debt = told[5:]
                for some in ((top + 1, bottom, debt), (top, bottom, debt + 1)):
                    self.assertTrue(accepts(told[:5] + some, certificate))
                self.assertFalse(accepts(told[:5] + (top - 1, bottom, debt), certificate))
                self.assertFalse(accepts(told[:5] + (top, bottom + 1, debt), certificate))
                # Worths and the debt may be greater, all by the same number.
                raised = tuple((stand, worth + 7) for stand, worth in certificate)
                self.assertTrue(accepts(told[:5] + (top, bottom, debt + 7), raised))
                self.assertFalse(accepts(told[:5] + (top, bottom, debt + 6), raised))
                # The same rate in other terms.
                doubled = tuple((stand, 2 * worth) for stand, worth in certificate)
                self.assertTrue(accepts(told[:5] + (2 * top, 2 * bottom, 2 * debt), doubled))
                low, way = certify_at_least(Drive(*parts), **terms)
                self.assertEqual((top, bottom), low[5:])
                self.assertTrue(accepts(low[:5] + (3 * top, 3 * bottom), way))
                self.assertFalse(accepts(low[:5] + (3 * top + 1, 3 * bottom), way))


if __name__ == "__main__":
    unittest.main()
