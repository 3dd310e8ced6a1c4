import itertools
import random
import unittest
from unittest import mock

from spareblocks.best import best_pause, best_picks, best_rate, is_best
from spareblocks.bests import find_best, improve
from spareblocks.drives import Drive
from spareblocks.duels import fight
from spareblocks.duels import holds_less as holds_less_than
from spareblocks.errors import TooMany
from spareblocks.games import find_game, list_costs, tell_due
from spareblocks.rates import longest_write, rate
from spareblocks.ratios import lowest
from spareblocks.tables import pick_least, rate_table
from tests.helper import WORDS, all_names, all_sizes, stands_counted
from tests.picked import (all_tables, ends, forces_rate, greatest_pause, holds_less, holds_rate, is_due, least_pause,
                          table_links, walk_picked)
from tests.samples import PRICES
from tests.walks import Sticking, walk_all

DRIFTS = (None, 1, 2, 3)

# Sizes with few tables, and drifts for which there are few.
SMALLEST = [((3, 2, 1), (None, 1, 2)), ((3, 2, 2), (None, 1)), ((3, 2, 3), (None,)), ((3, 2, 4), (None,)),
            ((3, 3, 1), (None, 1, 2)), ((3, 3, 2), (None, 1)), ((3, 3, 3), (None,)), ((3, 4, 3), (None,)),
            ((4, 2, 1), (None, 1)), ((4, 2, 2), (None,)), ((4, 3, 2), (None,)), ((5, 2, 1), (None, 1))]

def is_fraction(value):
    if type(value) is not tuple or len(value) != 2 or {type(part) for part in value} != {int}:
        return False
    top, bottom = value
    return bottom > 0 and top >= 0 and all(top % part or bottom % part for part in range(2, bottom + 1))


class MadeGame:
    """A game that no drive has: blocks of 3 pages, due pairs by their closed blocks, and ways of writes between them."""

    class Three:
        pages = 3

    def __init__(self, first, picks):
        """The first due pair, and for each one the due pairs behind its picks."""
        self.drive = self.Three()
        self.nodes, self.links, self.worn, self.due = [], [], [], []
        start = self.add(((), ()), self.worn)
        numbers = {closed: self.add((closed, None), self.due) for closed in picks}
        self.links[start].append(("new", numbers[first]))
        for closed, behind in picks.items():
            for place, after in enumerate(behind):
                # The write for which it is picked is the one that leads to the due pair.
                self.links[numbers[closed]].append((place, self.add_way(3 - closed[place], numbers[after])))

    def add(self, stand, kind):
        self.nodes.append((stand, ()))
        self.links.append([])
        kind.append(len(self.nodes) - 1)
        return len(self.nodes) - 1

    def add_way(self, writes, after):
        for written in range(writes, 0, -1):
            number = self.add(((), (written, 0)), self.worn)
            self.links[number].append(("new", after))
            after = number
        return after


class MadeTest(unittest.TestCase):
    """Games in which it is not best to pick the fewest living pages, or in which the first pick costs most."""

    def rate(self, game, costs):
        best = find_best(game, costs)
        return lowest(best.rate.top, best.rate.bottom), {number: link[0] for number, link in best.table.items()}

    def test_what_is_cheap_now_is_costly_later(self):
        # Picking 0 leads to where 8 must be paid for one write: 8 for 4 writes, and else 3 for 2.
        game = MadeGame((0, 1), {(0, 1): [(2, 2), (0, 1)], (2, 2): [(0, 1), (0, 1)]})
        self.assertEqual((2, 1), self.told(rate_table(game, pick_least(game), [0, 3, 8])))
        self.assertEqual(((3, 2), 1), (self.rate(game, [0, 3, 8])[0], self.rate(game, [0, 3, 8])[1][1]))
        # If 4 must be paid it is best to go there.
        self.assertEqual(((1, 1), 0), (self.rate(game, [0, 3, 4])[0], self.rate(game, [0, 3, 4])[1][1]))

    def told(self, rate_of):
        return lowest(rate_of.top, rate_of.bottom)

    def test_all_tables_of_a_made_game(self):
        game = MadeGame((0, 0, 0), {(0, 0, 0): [(1, 1, 1), (2, 1, 1), (2, 2, 1)], (1, 1, 1): [(0, 0, 0)] * 3,
                                    (2, 1, 1): [(0, 0, 0), (2, 2, 1), (2, 2, 1)], (2, 2, 1): [(0, 0, 0)] * 3})
        for costs in ([0, 9, 7], [0, 1, 7], [5, 9, 1], [1, 1, 1], [9, 0, 9]):
            found, table = self.rate(game, costs)
            self.assertEqual(min(self.all_rates(game, costs), key=lambda told: told[0] / told[1]), found)

    def all_rates(self, game, costs):
        for places in itertools.product(*[range(3) for number in game.due]):
            table = {number: game.links[number][place] for number, place in zip(game.due, places)}
            yield self.told(rate_table(game, table, costs))

    def test_a_first_pick_that_costs_more_than_the_rate(self):
        # 3 is paid for 2 writes, and then nothing for 3: less than 3 / 5 cannot be held.
        game = MadeGame((1,), {(1,): [(0,)], (0,): [(1,)]})
        for top, bottom, less in ((3, 5, False), (2, 1, True), (61, 100, True), (59, 100, False)):
            self.assertIs(less, holds_less_than(fight(game, [0, 3], top, bottom)))


class ImproveTest(unittest.TestCase):
    """No drive was found for which it is not best to pick the fewest living pages; so other tables begin here."""

    def check(self, sizes, terms):
        """From tables with greater rates the same best rate is come to, by tables that hold it."""
        drive = Drive.simple(*sizes)
        game = find_game(drive, terms["trims"], terms["drift"])
        costs = list_costs(drive, terms["copies"], terms["erasures"])
        web = walk_picked(*sizes, terms["trims"], terms["drift"])
        expected = best_rate(drive, **terms)
        better = 0
        for table in self.tables(game):
            before = rate_table(game, table, costs)
            best = improve(game, costs, dict(table))
            self.assertEqual(expected[0] * best.rate.bottom, best.rate.top * expected[1])
            told = {tell_due(game.nodes[number]): link[0] for number, link in best.table.items()}
            links = table_links(web, told)
            self.assertTrue(ends(links) and holds_rate(links, terms["copies"], terms["erasures"], *expected))
            better += before.top * expected[1] > expected[0] * before.bottom
        return better

    def tables(self, game):
        """Tables by which cleaning ends: what was closed first, and blocks that are not full, if the drift lets some."""
        chance = random.Random(len(game.due))
        yield {number: game.links[number][0] for number in game.due}
        for choose in (lambda some: some[-1], chance.choice, chance.choice):
            table = {}
            for number in game.due:
                closed = game.nodes[number][0][0]
                some = [link for link in game.links[number] if closed[link[0]] < game.drive.pages]
                table[number] = choose(some) if some else game.links[number][0]
            yield table

    def test_from_other_tables(self):
        better = 0
        for at, sizes in enumerate([(3, 2, 2), (3, 2, 3), (3, 2, 4), (3, 3, 3), (3, 3, 5), (3, 4, 6), (4, 2, 3), (4, 2, 5),
                                    (4, 3, 4), (5, 2, 3)]):
            for drift in (None, 1, 2):
                for trims in (True, False):
                    copies, erasures = PRICES[(at + trims) % len(PRICES)]
                    if drift is None or drift == 1 and sizes[:2] == (4, 2) or sizes[0] == 3:
                        terms = {"copies": copies, "erasures": erasures, "trims": trims, "drift": drift}
                        with self.subTest(sizes=sizes, terms=terms):
                            better += self.check(sizes, terms)
        self.assertGreater(better, 30)


class BestTest(unittest.TestCase):
    def terms(self, copies, erasures, trims, drift):
        return {"copies": copies, "erasures": erasures, "trims": trims, "drift": drift}

    def check_picks(self, drive, web, terms, found):
        """The picks that are told hold the drift and the rate; each due pair once, ascending."""
        picks = best_picks(drive, **terms)
        self.assertIs(tuple, type(picks))
        self.assertTrue(all(one < other for one, other in zip(picks, picks[1:])))
        table = dict(picks)
        self.assertEqual(len(picks), len(table))
        self.assertLessEqual(set(table), {node for node in web if is_due(node)})
        links = table_links(web, table)
        self.assertTrue(ends(links))
        # A pick beyond the drift is no link of the web.
        self.assertTrue(all([len(row) == 1 for node, row in links.items() if is_due(node)]))
        self.assertTrue(holds_rate(links, terms["copies"], terms["erasures"], *found))

    def test_all_tables_of_the_smallest_drives(self):
        for sizes, drifts in SMALLEST:
            for drift in drifts:
                for trims in (True, False):
                    web = walk_picked(*sizes, trims, drift)
                    tables = [table_links(web, table) for table in all_tables(web)]
                    tables = [links for links in tables if ends(links)]
                    with self.subTest(sizes=sizes, drift=drift, trims=trims, tables=len(tables)):
                        for copies, erasures in ((1, 0), (0, 1), (2, 3)):
                            terms = self.terms(copies, erasures, trims, drift)
                            self.compare(Drive.simple(*sizes), web, tables, terms)

    def compare(self, drive, web, tables, terms):
        copies, erasures = terms["copies"], terms["erasures"]
        found = best_rate(drive, **terms)
        self.assertTrue(is_fraction(found))
        self.assertFalse(any([holds_less(links, copies, erasures, *found) for links in tables]))
        self.check_picks(drive, web, terms, found)
        pauses = [greatest_pause(links, copies, erasures) for links in tables]
        self.assertEqual(min(pauses), best_pause(drive, **terms))

    def test_rates_are_held_and_forced(self):
        sizes = [(blocks, pages, names) for blocks, pages in ((3, 2), (3, 3), (4, 2)) for names in all_names(blocks, pages)]
        for at, size in enumerate(sizes + [(3, 4, 5), (3, 5, 2), (4, 3, 4), (5, 2, 3), (6, 2, 2)]):
            for drift in DRIFTS:
                for trims in (True, False):
                    web = walk_picked(*size, trims, drift, 500)
                    if len(web) <= 500:
                        copies, erasures = PRICES[(at + (drift or 0)) % len(PRICES)]
                        with self.subTest(size=size, drift=drift, trims=trims, prices=(copies, erasures)):
                            terms = self.terms(copies, erasures, trims, drift)
                            found = best_rate(Drive.simple(*size, "most"), **terms)
                            self.assertTrue(is_fraction(found))
                            self.assertTrue(forces_rate(web, copies, erasures, *found))
                            self.check_picks(Drive.simple(*size, "oldest"), web, terms, found)
                            self.assertEqual(least_pause(web, size[1], copies, erasures),
                                             best_pause(Drive.simple(*size, "most"), **terms))

    def test_known_best_rates(self):
        # With less names than blocks some closed block is always empty; else who writes keeps a page in each of them.
        # If as many names live as there are pages in all blocks but one, the page that dies is the only dead one.
        for blocks, pages in all_sizes():
            for names in all_names(blocks, pages):
                if stands_counted(blocks, pages, names) <= 1000:
                    for trims in (True, False):
                        found = best_rate(Drive.simple(blocks, pages, names), trims=trims)
                        self.assertIs(names < blocks, found == (0, 1))
                        if names == pages * (blocks - 1):
                            self.assertEqual((pages - 1, 1), found)
        self.assertEqual((1, 5), best_rate(Drive.simple(3, 2, 2), drift=1))

    def test_the_rows_do_not_matter(self):
        for drift in DRIFTS:
            told = [(best_rate(drive, drift=drift), best_pause(drive, drift=drift), best_picks(drive, drift=drift))
                    for drive in (Drive.simple(3, 2, 3, word) for word in WORDS)]
            self.assertEqual(told[0], told[3])
            self.assertEqual(1, len(set(told)))

    def test_greater_drifts_and_rules(self):
        # A greater drift lets more be picked; each rule is one way of picking.
        for sizes in ((3, 2, 3), (3, 3, 4), (3, 2, 4), (4, 2, 3)):
            for trims in (True, False):
                rates = [best_rate(Drive.simple(*sizes), trims=trims, drift=drift) for drift in (3, 2, 1)
                         if sizes != (4, 2, 3) or drift == 1]
                rates = [best_rate(Drive.simple(*sizes), trims=trims)] + rates
                rates.append(rate(Drive.simple(*sizes, "oldest"), trims=trims))
                self.assertTrue(all(one[0] * other[1] <= other[0] * one[1] for one, other in zip(rates, rates[1:])))
                pause = best_pause(Drive.simple(*sizes), trims=trims, drift=1)
                self.assertLessEqual(pause, longest_write(Drive.simple(*sizes, "oldest"), trims=trims))

    def test_is_best(self):
        found = []
        for blocks, pages in ((3, 2), (3, 3)):
            for names in all_names(blocks, pages):
                for rows in [((pages, word),) for word in WORDS] + [((0, "oldest"), (pages, "least")),
                                                                    ((1, "oldest"), (pages, "oldest"))]:
                    for drift in DRIFTS:
                        for trims, (copies, erasures) in ((True, (1, 0)), (False, (1, 2))):
                            parts = (blocks, pages, names, rows)
                            terms = self.terms(copies, erasures, trims, drift)
                            expected = self.expected_is_best(parts, terms)
                            self.assertIs(expected, is_best(Drive(*parts), **terms), (parts, terms))
                            found.append((drift is None, expected))
        self.assertEqual(4, len(set(found)))

    def expected_is_best(self, parts, terms):
        try:
            web = walk_all([parts], terms["trims"])
        except Sticking:
            return False
        # A block that is not the one that was closed first can be picked again and again: then there is no drift.
        first = all([link.rows[0][0] == link.erased[0][0] for row in web.values() for link in row if link.erased[0]])
        if terms["drift"] is not None and not first:
            return False
        prices = {name: terms[name] for name in ("copies", "erasures", "trims")}
        return rate(Drive(*parts), **prices) == best_rate(Drive(*parts), **terms)

    def test_too_many_worn_stands(self):
        # These have 982, and more than 1000 with trims alone, as the walks tell.
        few, many = Drive.simple(3, 3, 6), Drive.simple(3, 4, 4)
        self.assertEqual(982, len([node for node in walk_picked(3, 3, 6, True, 3) if not is_due(node)]))
        self.assertLess(1000, len([node for node in walk_picked(3, 4, 4, True, 3) if not is_due(node)]))
        self.assertGreater(1000, len([node for node in walk_picked(3, 4, 4, False, 3) if not is_due(node)]))
        for function in (best_rate, best_pause, best_picks, is_best):
            function(few, drift=3)
            function(many, drift=3, trims=False)
            for drive in (many, Drive.simple(3, 4, 4, "most"), Drive.simple(3, 4, 4, "oldest"), Drive.simple(4, 3, 9)):
                with self.assertRaises(TooMany) as caught:
                    function(drive, drift=3)
                self.assertIs(TooMany, type(caught.exception))
                self.assertEqual(1000, caught.exception.limit)

    def test_the_limit_itself(self):
        # No drive has exactly 1000 worn stands, so that the edge is tested at a lesser limit.
        self.assertEqual(48, len([node for node in walk_picked(3, 2, 3, True, 1) if not is_due(node)]))
        for limit, many in ((47, True), (48, False)):
            with mock.patch("spareblocks.games.MOST_PICKED", limit):
                for function in (best_rate, best_pause, best_picks, is_best):
                    if many:
                        self.assertRaises(TooMany, function, Drive.simple(3, 2, 3), drift=1)
                    else:
                        function(Drive.simple(3, 2, 3), drift=1)

    def test_examples_of_the_interface(self):
        least, oldest = Drive.simple(3, 2, 3), Drive.simple(3, 2, 4, "oldest")
        self.assertEqual([(1, 1), (1, 1), True, False, 1, (0, 1)],
                         [best_rate(least), best_rate(oldest), is_best(least), is_best(oldest), best_pause(oldest),
                          best_rate(Drive.simple(3, 2, 2))])
        self.assertEqual((0, 1), best_rate(Drive.simple(3, 2, 1), drift=1))
        self.assertEqual(best_rate(least), best_rate(least, drift=None))
        self.assertIn((((1, 0), (1, 0)), 0), dict(best_picks(least)))

    def test_equal_arguments_give_equal_results_and_nothing_changes(self):
        parts = (3, 3, 5, ((1, "oldest"), (3, "least")))
        drive = Drive(*parts)
        for function in (best_rate, best_pause, best_picks, is_best):
            for drift in (None, 2):
                self.assertEqual(function(drive, drift=drift), function(drive=Drive(*parts), drift=drift, trims=True))
        self.assertEqual(parts, (drive.blocks, drive.pages, drive.names, drive.rows))


if __name__ == "__main__":
    unittest.main()
