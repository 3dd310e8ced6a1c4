"""Wrong arguments of the functions that judge drives, of sticking.py, of certificates.py and of stands."""

import itertools
import unittest

from spareblocks.best import best_pause, best_picks, best_rate, is_best
from spareblocks.certificates import certify_at_least, certify_at_most, certify_forces, certify_holds, certify_more
from spareblocks.comparing import excess, never_more, worse_load
from spareblocks.drifts import drift, drift_load
from spareblocks.drives import Drive
from spareblocks.errors import (InvalidDrift, InvalidFlag, InvalidNumber, InvalidPrice, NotADrive, OtherNames, Sticks,
                                TooMany)
from spareblocks.playing import stands
from spareblocks.rates import costly_load, debt, longest_write, most_price, rate
from spareblocks.sticking import stick_load, sticks
from tests.helper import integers_of_many_sizes, values_of_many_kinds

TERMS = ("copies", "erasures", "trims")

# The parameters of each function, those that can be passed by position before the others.
PARAMETERS = {
    rate: (("drive",), TERMS),
    debt: (("drive",), TERMS),
    longest_write: (("drive",), TERMS),
    most_price: (("drive", "number"), TERMS),
    costly_load: (("drive", "number"), TERMS),
    drift: (("drive",), ("trims",)),
    drift_load: (("drive", "more"), ("trims",)),
    excess: (("one", "other"), TERMS),
    never_more: (("one", "other"), TERMS),
    worse_load: (("one", "other", "more"), TERMS),
    stands: (("drive",), ("trims",)),
    sticks: (("drive",), ("trims",)),
    stick_load: (("drive",), ("trims",)),
    best_rate: (("drive",), TERMS + ("drift",)),
    best_pause: (("drive",), TERMS + ("drift",)),
    best_picks: (("drive",), TERMS + ("drift",)),
    is_best: (("drive",), TERMS + ("drift",)),
    certify_at_most: (("drive",), TERMS),
    certify_at_least: (("drive",), TERMS),
    certify_holds: (("drive",), TERMS + ("drift",)),
    certify_forces: (("drive",), TERMS + ("drift",)),
    certify_more: (("one", "other", "more"), ("copies", "erasures")),
}
# These have an answer also for drives of which a write sticks.
BEST = (best_rate, best_pause, best_picks, is_best, certify_holds, certify_forces)
UNSTUCK = (stands, sticks, stick_load) + BEST
COMPARING = (excess, never_more, worse_load, certify_more)
ERRORS = {"drive": NotADrive, "one": NotADrive, "other": NotADrive, "number": InvalidNumber, "more": InvalidNumber,
          "copies": InvalidPrice, "erasures": InvalidPrice, "trims": InvalidFlag, "drift": InvalidDrift}
RIGHT = {"drive": Drive.simple(3, 2, 3), "one": Drive.simple(3, 2, 3), "other": Drive.simple(3, 3, 3), "number": 3,
         "more": 1, "copies": 1, "erasures": 2, "trims": True, "drift": None}
# Numbers just within their bounds, and just beyond them.
WITHIN = {"number": (0, 500), "more": (0, 20), "copies": (0, 9), "erasures": (0, 9), "trims": (True, False),
          "drift": (None, 1, 2, 3)}
BEYOND = {"number": (-1, 501), "more": (-1, 21), "copies": (-1, 10), "erasures": (-1, 10), "trims": (0, 1, 2, -1),
          "drift": (0, 4, -1)}

# A write of each of these can stick, with trims and without.
STICKING = (Drive.simple(3, 2, 4, "most"), Drive(4, 3, 8, ((1, "oldest"), (3, "most"))))


class LooksLikeADrive:
    blocks, pages, names, rows = 3, 2, 3, ((2, "least"),)


def wrong_values(name):
    if name in ("drive", "one", "other"):
        drive = Drive.simple(3, 2, 3)
        alike = [str(drive), Drive, (3, 2, 3, ((2, "least"),)), (drive,), [drive], LooksLikeADrive(), LooksLikeADrive]
        return values_of_many_kinds() + integers_of_many_sizes() + alike
    if name == "trims":
        values = [value for value in values_of_many_kinds() if value is not True and value is not False]
        return values + ["True", "trims"] + list(BEYOND["trims"])
    if name == "drift":
        return [value for value in values_of_many_kinds() if value is not None] + list(BEYOND["drift"]) + ["1", (1,)]
    return values_of_many_kinds() + list(BEYOND[name]) + [10 ** 39, -(10 ** 39), "1", (1,), RIGHT["one"]]


class RefusedTest(unittest.TestCase):
    def call(self, function, changed):
        """Calls it with right arguments but for these, once by position as far as that goes, once by name."""
        by_position, by_name = PARAMETERS[function]
        told = {name: changed.get(name, RIGHT[name]) for name in by_position + by_name}
        yield lambda: function(*[told[name] for name in by_position], **{name: told[name] for name in by_name})
        yield lambda: function(**dict(reversed(told.items())))

    def refused(self, function, changed, error_class, given):
        for call in self.call(function, changed):
            with self.assertRaises(error_class) as caught:
                call()
            self.assertIs(error_class, type(caught.exception))
            self.assertIs(given, caught.exception.given)

    def refused_without_given(self, function, changed, error_class):
        for call in self.call(function, changed):
            with self.assertRaises(error_class) as caught:
                call()
            self.assertIs(error_class, type(caught.exception))

    def names(self, function):
        by_position, by_name = PARAMETERS[function]
        return by_position + by_name

    def test_each_wrong_value(self):
        for function in PARAMETERS:
            for name in self.names(function):
                for value in wrong_values(name):
                    self.refused(function, {name: value}, ERRORS[name], value)

    def test_numbers_just_within_their_bounds(self):
        for function in PARAMETERS:
            for name in self.names(function):
                for value in WITHIN.get(name, ()):
                    for call in self.call(function, {name: value}):
                        call()

    def test_two_prices_of_0(self):
        for function in PARAMETERS:
            if "copies" in self.names(function):
                self.refused(function, {"copies": 0, "erasures": 0}, InvalidPrice, 0)
                self.refused(function, {"copies": 0, "erasures": 0, "trims": 1}, InvalidPrice, 0)
                with self.assertRaises(InvalidPrice) as caught:
                    function(*[RIGHT[name] for name in PARAMETERS[function][0]], copies=0)
                self.assertEqual(0, caught.exception.given)
                # True and False are no prices, also where the other price is 0.
                self.refused(function, {"copies": False, "erasures": 0}, InvalidPrice, False)
                self.refused(function, {"copies": 0, "erasures": False}, InvalidPrice, False)

    def test_several_wrong_ones_the_first_is_told(self):
        wrong = {"drive": None, "one": "one", "other": (), "number": 501, "more": 21, "copies": 10, "erasures": -1,
                 "trims": 1, "drift": 4}
        for function in PARAMETERS:
            names = self.names(function)
            for many in range(2, len(names) + 1):
                for some in itertools.combinations(names, many):
                    self.refused(function, {name: wrong[name] for name in some}, ERRORS[some[0]], wrong[some[0]])

    def test_other_room_for_names(self):
        one = RIGHT["one"]
        for function in COMPARING:
            for other in (Drive.simple(3, 2, 4), Drive.simple(3, 2, 2), Drive.simple(6, 5, 1), STICKING[1]):
                self.refused_without_given(function, {"one": one, "other": other}, OtherNames)
                self.refused_without_given(function, {"one": other, "other": one}, OtherNames)
                for name in self.names(function)[2:]:
                    for value in BEYOND[name]:
                        self.refused_without_given(function, {"other": other, name: value}, OtherNames)
                self.refused(function, {"one": 3, "other": other}, NotADrive, 3)

    def test_sticks(self):
        for drive in STICKING:
            fine = Drive.simple(5, 3, drive.names, "oldest")
            for function in [function for function in PARAMETERS if function not in UNSTUCK]:
                for trims in (True, False):
                    pairs = [{"drive": drive, "one": drive, "other": fine}, {"drive": drive, "one": fine, "other": drive},
                             {"drive": drive, "one": drive, "other": drive}]
                    for pair in pairs:
                        self.refused_without_given(function, {**pair, "trims": trims}, Sticks)

    def test_sticks_comes_last(self):
        for drive in STICKING:
            changed = {"drive": drive, "one": drive, "other": drive}
            for function in PARAMETERS:
                for name in self.names(function):
                    if name in BEYOND:
                        for value in BEYOND[name]:
                            self.refused(function, {**changed, name: value}, ERRORS[name], value)

    def test_sticks_comes_ahead_of_too_many(self):
        sticking, fine, other = [Drive.simple(4, 3, 8, word) for word in ("most", "least", "oldest")]
        for function in COMPARING:
            for one, two in ((fine, other), (other, fine)):
                with self.assertRaises(TooMany) as caught:
                    function(one, two)
                self.assertEqual(4000, caught.exception.limit)
                self.assertIs(TooMany, type(caught.exception))
            for one, two in ((sticking, other), (other, sticking)):
                self.refused_without_given(function, {"one": one, "other": two}, Sticks)

    def test_too_many_worn_stands_come_last(self):
        changed = {"drive": Drive.simple(4, 3, 9, "most"), "drift": 3}
        for function in BEST:
            self.refused_without_given(function, changed, TooMany)
            for name in self.names(function)[1:]:
                for value in BEYOND[name]:
                    self.refused(function, {**changed, name: value}, ERRORS[name], value)

    def test_too_many_comes_last(self):
        changed = {"one": Drive.simple(4, 3, 8), "other": Drive.simple(4, 3, 8, "oldest")}
        for function in COMPARING:
            for name in self.names(function)[2:]:
                for value in BEYOND[name]:
                    self.refused(function, {**changed, name: value}, ERRORS[name], value)

    def test_by_name_alone_behind_the_star(self):
        for function, (by_position, by_name) in PARAMETERS.items():
            told = [RIGHT[name] for name in by_position]
            with self.assertRaises(TypeError):
                function(*told, RIGHT[by_name[0]])


if __name__ == "__main__":
    unittest.main()
