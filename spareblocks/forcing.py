"""Moves of who writes that force the best rate, and what they owe at most."""

from spareblocks.games import order_worn, tell_worn
from spareblocks.longest import settle
from spareblocks.webs import TRIM


def choose_moves(game, duel):
    """For each worn stand the link to where the duel is worth most."""
    return {number: max(game.links[number], key=lambda link: duel.worths[link[1]]) for number in game.worn}


def link_forced(game, moves, costs, top, bottom):
    """The net of longest.py with the weights turned round, of the nodes that come by these moves and any picks."""
    net = [[] for node in game.nodes]
    met = {0: True}
    waiting = [0]
    while waiting:
        number = waiting.pop()
        if number in moves:
            move, after = moves[number]
            net[number] = [(after, 0 if move[0] == TRIM else top)]
        else:
            closed = game.nodes[number][0][0]
            net[number] = [(after, -bottom * costs[closed[place]]) for place, after in game.links[number]]
        for after, weight in net[number]:
            if after not in met:
                met[after] = True
                waiting.append(after)
    return net


def find_forced(game, duel, costs, top, bottom):
    """The triples (worn stand, move, worth) that force the rate top / bottom."""
    moves = choose_moves(game, duel)
    net = link_forced(game, moves, costs, top, bottom)
    sums = [0] * len(net)
    # No ring of these is above 0: who writes loses nothing by going round.
    settle(net, order_worn(game) + game.due, sums)
    come = [number for number in game.worn if net[number]]
    return tuple([(tell_worn(game.nodes[number]), moves[number][0], -sums[number]) for number in come])
