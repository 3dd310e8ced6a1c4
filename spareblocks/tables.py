"""Tables of picks: for the number of each due pair of a game one of its links."""

from spareblocks.games import order_worn
from spareblocks.prices import find_greatest
from spareblocks.webs import TRIM


def pick_least(game):
    """The table that picks a block with the fewest living pages, as far as the drift lets it.

    By this, too, cleaning ends: to go on for ever within a drift, each block would have to be picked at some time.
    """
    table = {}
    for number in game.due:
        closed = game.nodes[number][0][0]
        table[number] = min(game.links[number], key=lambda link: closed[link[0]])
    return table


def link_table(game, table, costs):
    """The links (number, price, writes) of prices.py, of the nodes to which loads lead if it is picked so."""
    links = [[] for node in game.nodes]
    met = {0: True}
    waiting = [0]
    while waiting:
        number = waiting.pop()
        links[number] = link_node(game, table, costs, number)
        for after, price, writes in links[number]:
            if after not in met:
                met[after] = True
                waiting.append(after)
    return links


def link_node(game, table, costs, number):
    """The links of one node; the write itself costs nothing, what is picked for it does."""
    if number in table:
        place, after = table[number]
        return [(after, costs[game.nodes[number][0][0][place]], 0)]
    return [(after, 0, 0 if move[0] == TRIM else 1) for move, after in game.links[number]]


def rate_table(game, table, costs):
    """The rate of a table."""
    links = link_table(game, table, costs)
    return find_greatest(links, [number for number in order_worn(game) + game.due if links[number]])
