"""The best that can be had by picking: rates and pauses, for a wished drift, and tables of picks."""

from spareblocks.bands import find_stuck, is_first_always
from spareblocks.bests import find_best
from spareblocks.checks import check_wish
from spareblocks.games import find_game, list_costs, tell_due
from spareblocks.pauses import find_pause
from spareblocks.prices import find_rate
from spareblocks.ratios import lowest
from spareblocks.reaching import find_web


def best_rate(drive, *, copies=1, erasures=0, trims=True, drift=None):
    """The least rate that any way of picking within the drift can hold."""
    check_wish(drive, copies, erasures, trims, drift)
    best = find_best(find_game(drive, trims, drift), list_costs(drive, copies, erasures))
    return lowest(best.rate.top, best.rate.bottom)


def best_pause(drive, *, copies=1, erasures=0, trims=True, drift=None):
    """The least number that some way of picking within the drift keeps as the price of each single write."""
    check_wish(drive, copies, erasures, trims, drift)
    return find_pause(find_game(drive, trims, drift), list_costs(drive, copies, erasures))


def best_picks(drive, *, copies=1, erasures=0, trims=True, drift=None):
    """Pairs (due, index) that tell what to pick so as to hold the drift and the best rate."""
    check_wish(drive, copies, erasures, trims, drift)
    game = find_game(drive, trims, drift)
    best = find_best(game, list_costs(drive, copies, erasures))
    return tuple(sorted([(tell_due(game.nodes[number]), link[0]) for number, link in best.table.items()]))


def is_best(drive, *, copies=1, erasures=0, trims=True, drift=None):
    """Whether the drive itself never sticks, holds the drift and has the best rate."""
    check_wish(drive, copies, erasures, trims, drift)
    game = find_game(drive, trims, drift)
    if find_stuck(drive) is not None or drift is not None and not is_first_always(drive):
        return False
    told = find_rate(find_web(drive, trims), copies, erasures)
    best = find_best(game, list_costs(drive, copies, erasures))
    return told.top * best.rate.bottom == best.rate.top * told.bottom
