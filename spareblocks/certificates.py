"""Claims for the checker, with certificates."""

from spareblocks.bests import find_best
from spareblocks.checker import AT_LEAST, AT_MOST, FORCES, HOLDS, MORE
from spareblocks.checks import check_drive, check_terms, check_wish
from spareblocks.comparing import worse_load
from spareblocks.forcing import find_forced
from spareblocks.games import find_game, list_costs, tell_due, tell_worn
from spareblocks.naming import name_places
from spareblocks.prices import find_rate
from spareblocks.ratios import lowest
from spareblocks.reaching import find_web
from spareblocks.rings import find_ring, find_way
from spareblocks.tables import link_table


def certify_at_most(drive, *, copies=1, erasures=0, trims=True):
    """That the rate, and the debt, are no greater."""
    check_drive(drive)
    check_terms(copies, erasures, trims)
    web = find_web(drive, trims)
    rate = find_rate(web, copies, erasures)
    top, bottom = lowest(rate.top, rate.bottom)
    sums = lower_sums(rate, bottom)
    worths = tuple([(web.stands[number], sums[number]) for number in web.reached])
    return (AT_MOST, str(drive), copies, erasures, trims, top, bottom, sums[0]), worths


def certify_at_least(drive, *, copies=1, erasures=0, trims=True):
    """That the rate is no less."""
    check_drive(drive)
    check_terms(copies, erasures, trims)
    web = find_web(drive, trims)
    rate = find_rate(web, copies, erasures)
    top, bottom = lowest(rate.top, rate.bottom)
    number, ring = find_ring(web, rate)
    way = find_way(web, number)
    load = name_places(drive, way + ring)
    return (AT_LEAST, str(drive), copies, erasures, trims, top, bottom), (load[:len(way)], load[len(way):])


def certify_holds(drive, *, copies=1, erasures=0, trims=True, drift=None):
    """That the best rate is no greater."""
    check_wish(drive, copies, erasures, trims, drift)
    game = find_game(drive, trims, drift)
    costs = list_costs(drive, copies, erasures)
    best = find_best(game, costs)
    top, bottom = lowest(best.rate.top, best.rate.bottom)
    sums = lower_sums(best.rate, bottom)
    links = link_table(game, best.table, costs)
    picks = tuple([(tell_due(game.nodes[number]), best.table[number][0]) for number in game.due if links[number]])
    worths = tuple([(tell_worn(game.nodes[number]), sums[number]) for number in game.worn if links[number]])
    return (HOLDS, str(drive), copies, erasures, trims, drift, top, bottom), (picks, worths)


def certify_forces(drive, *, copies=1, erasures=0, trims=True, drift=None):
    """That the best rate is no less."""
    check_wish(drive, copies, erasures, trims, drift)
    game = find_game(drive, trims, drift)
    costs = list_costs(drive, copies, erasures)
    best = find_best(game, costs)
    top, bottom = lowest(best.rate.top, best.rate.bottom)
    forced = find_forced(game, best.duel, costs, top, bottom)
    return (FORCES, str(drive), copies, erasures, trims, drift, top, bottom), forced


def certify_more(one, other, more=0, *, copies=1, erasures=0):
    """That some load costs the one more than so much more than the other; None if none does."""
    load = worse_load(one, other, more, copies=copies, erasures=erasures)
    return None if load is None else ((MORE, str(one), str(other), copies, erasures, more), load)


def lower_sums(rate, bottom):
    """The sums of a rate in lowest terms, this being its bottom."""
    return [owed * bottom // rate.bottom for owed in rate.sums]
