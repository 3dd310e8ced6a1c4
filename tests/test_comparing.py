import unittest

from spareblocks.comparing import excess, never_more, worse_load
from spareblocks.drives import Drive
from spareblocks.errors import Sticks, TooMany
from tests.samples import PRICES, some_pairs
from tests.walks import Sticking, fewest_events, first_node, greatest_heights, price_of, walk_all

# Pairs of drives, whether with trims, and how many joint stands they have.
NEAR_THE_LIMIT = (
    ((4, 2, 4, ((2, "oldest"),)), (5, 4, 4, ((4, "oldest"),)), True, 3947),
    ((4, 3, 6, ((3, "least"),)), (6, 2, 6, ((2, "least"),)), False, 3997),
    ((3, 4, 5, ((1, "most"), (4, "oldest"))), (6, 3, 5, ((3, "least"),)), False, 4001),
    ((3, 4, 5, ((4, "oldest"),)), (5, 3, 5, ((3, "least"),)), True, 4002),
)


def gap_links(web, copies, erasures):
    """Links between joint stands; the gain is what an event costs the one more than the other."""
    found = {}
    for node, links in web.items():
        found[node] = []
        for link in links:
            gain = link.price(copies, erasures) - link.price(copies, erasures, at=1)
            found[node].append((link.after, gain, gain))
    return found


def told_excess(links, start):
    heights = greatest_heights(links, [start])
    return None if heights is None else max(heights.values())


class ComparingTest(unittest.TestCase):
    def check(self, pair, trims, prices, mores):
        """The excesses; none if a write sticks."""
        one, other = [Drive(*parts) for parts in pair]
        try:
            web = walk_all(pair, trims)
        except Sticking:
            self.check_sticks(one, other, trims)
            return []
        found = []
        for copies, erasures in prices:
            terms = {"copies": copies, "erasures": erasures, "trims": trims}
            links = gap_links(web, copies, erasures)
            expected = told_excess(links, first_node(web))
            found.append(excess(one, other, **terms))
            self.assertEqual((expected, type(expected)), (found[-1], type(found[-1])))
            self.assertIs(expected == 0, never_more(one, other, **terms))
            for more in mores:
                load = worse_load(one, other, more, **terms)
                if expected is not None and expected <= more:
                    self.assertIsNone(load)
                else:
                    self.check_load(pair, more, load, terms)
                    self.assertEqual(fewest_events(links, [first_node(web)], more + 1), len(load))
        return found

    def check_load(self, pair, more, load, terms):
        one, other = [price_of(parts, load, terms["copies"], terms["erasures"]) for parts in pair]
        self.assertGreater(one - other, more)
        self.assertTrue(terms["trims"] or all(word == "write" for word, name in load))

    def check_sticks(self, one, other, trims):
        for function in (excess, never_more, worse_load):
            for first, second in ((one, other), (other, one)):
                with self.assertRaises(Sticks) as caught:
                    function(first, second, trims=trims)
                self.assertIs(Sticks, type(caught.exception))

    def test_pairs_of_many_sizes(self):
        found = []
        for at, pair in enumerate(some_pairs(3, 130, 60)):
            for trims in (True, False):
                prices = (PRICES[at % len(PRICES)], PRICES[(4 * at + 1) % len(PRICES)])
                with self.subTest(pair=pair, trims=trims):
                    found += self.check(pair, trims, prices, (0, 1, 4))
        self.assertIn(None, found)
        self.assertIn(0, found)
        self.assertGreater(len([value for value in found if value is not None and value > 0]), 10)
        self.assertGreater(len(found), 200)

    def test_every_more(self):
        done = 0
        for pair in some_pairs(4, 12, 25):
            for trims in (True, False):
                with self.subTest(pair=pair, trims=trims):
                    done += len(self.check(pair, trims, ((1, 0),), range(21)))
        self.assertGreater(done, 10)

    def test_the_same_size_with_other_rules(self):
        for words in (("oldest", "least"), ("least", "oldest"), ("youngest", "least"), ("oldest", "youngest")):
            for trims in (True, False):
                for names in (2, 3, 4):
                    pair = [(3, 3, names, ((3, word),)) for word in words]
                    with self.subTest(pair=pair, trims=trims):
                        self.check(pair, trims, ((1, 0), (0, 1), (2, 3)), (0, 1, 2))

    def test_a_drive_and_itself(self):
        for parts in ((3, 2, 3, ((2, "least"),)), (3, 3, 5, ((1, "oldest"), (3, "least"))), (4, 2, 4, ((2, "oldest"),))):
            for trims in (True, False):
                one, other = Drive(*parts), Drive(*parts)
                self.assertEqual(0, excess(one, other, copies=3, erasures=4, trims=trims))
                self.assertIs(True, never_more(one, one, trims=trims))
                self.assertIsNone(worse_load(one, other, 20, trims=trims))

    def test_too_many_joint_stands(self):
        for one, other, trims, many in NEAR_THE_LIMIT:
            with self.subTest(one=one, other=other, trims=trims):
                self.assertEqual(many, len(walk_all([one, other], trims)))
                pair = (Drive(*one), Drive(*other))
                for function in (excess, never_more, worse_load):
                    for told in (pair, pair[::-1]):
                        if many <= 4000:
                            function(*told, trims=trims)
                        else:
                            self.refused(function, *told, trims=trims)

    def refused(self, function, *told, **named):
        with self.assertRaises(TooMany) as caught:
            function(*told, **named)
        self.assertIs(TooMany, type(caught.exception))
        self.assertEqual(4000, caught.exception.limit)

    def test_too_many_with_trims_alone(self):
        one, other = Drive(3, 4, 5, ((4, "oldest"),)), Drive(5, 3, 5, ((3, "least"),))
        self.refused(excess, one, other)
        self.refused(never_more, one, other)
        self.refused(worse_load, one, other)
        self.assertIsNone(excess(one, other, trims=False))
        self.assertIs(False, never_more(one, other, trims=False))
        self.assertIsNotNone(worse_load(one, other, trims=False))

    def test_examples_of_the_interface(self):
        least, oldest = Drive.simple(3, 2, 3), Drive.simple(3, 2, 3, "oldest")
        shown = [excess(least, least), never_more(least, least), worse_load(least, least), len(worse_load(oldest, least))]
        self.assertEqual([0, True, None, 5], shown)

    def test_by_name_and_defaults(self):
        one, other = Drive.simple(3, 3, 4, "oldest"), Drive.simple(3, 3, 4)
        terms = {"copies": 1, "erasures": 0, "trims": True}
        for function in (excess, never_more, worse_load):
            self.assertEqual(function(one, other, **terms), function(other=other, one=one))
        self.assertEqual(worse_load(one, other, 0), worse_load(one, other))
        self.assertEqual(worse_load(one, other, 2), worse_load(more=2, other=other, one=one))

    def test_equal_arguments_give_equal_results_and_nothing_changes(self):
        pair = ((3, 3, 4, ((1, "oldest"), (3, "least"))), (4, 2, 4, ((2, "oldest"),)))
        one, other = [Drive(*parts) for parts in pair]
        for function in (excess, never_more, worse_load):
            for trims in (True, False):
                again = [Drive(*parts) for parts in pair]
                self.assertEqual(function(one, other, trims=trims), function(*again, trims=trims))
        for parts, drive in zip(pair, (one, other)):
            self.assertEqual(parts, (drive.blocks, drive.pages, drive.names, drive.rows))


if __name__ == "__main__":
    unittest.main()
