"""The best rate of a game, with a table of picks that holds it, and with what forces it."""

from spareblocks.duels import fight, holds_less
from spareblocks.tables import pick_least, rate_table


class Best:
    """A table that holds the best rate, this rate, and the duel at this rate, which shows that nothing holds less."""

    def __init__(self, table, rate, duel):
        self.table = table
        self.rate = rate
        self.duel = duel


def find_best(game, costs):
    """The best of a game."""
    return improve(game, costs, pick_least(game))


def improve(game, costs, table):
    """The best of a game, from some table on by which cleaning ends: each one that is come to has a lesser rate."""
    best = challenge(game, costs, table)
    while holds_less(best.duel):
        better = {number: link for number, (after, weight, link) in best.duel.choices.items()}
        best = challenge(game, costs, {**best.table, **better})
    return best


def challenge(game, costs, table):
    """A table, its rate, and the duel that asks whether less can be held."""
    rate = rate_table(game, table, costs)
    return Best(table, rate, fight(game, costs, rate.top, rate.bottom))
