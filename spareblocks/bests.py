"""The best rate of a game, with a table of picks that holds it, and with what forces it."""

from spareblocks.duels import fight, holds_less
from spareblocks.tables import pick_least, rate_table


class Best:
    """The best rate is top / bottom, the table holds it, and the duel at this rate shows that nothing holds less."""

    def __init__(self, table, top, bottom, duel):
        self.table = table
        self.top = top
        self.bottom = bottom
        self.duel = duel


def list_costs(drive, copies, erasures):
    """What it costs to clean a block, for each number of living pages."""
    return [copies * living + erasures for living in range(drive.pages + 1)]


def find_best(game, costs):
    """The best of a game; each table that is come to has a lesser rate than the one before."""
    table = pick_least(game)
    top, bottom, sums = rate_table(game, table, costs)
    duel = fight(game, costs, top, bottom)
    while holds_less(duel):
        for number, (after, weight, link) in duel.choices.items():
            table[number] = link
        top, bottom, sums = rate_table(game, table, costs)
        duel = fight(game, costs, top, bottom)
    return Best(table, top, bottom, duel)
