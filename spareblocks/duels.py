"""Whether less than a rate can be held, whatever is written.

From one due pair to the next one who writes goes where he likes, at no price. How many writes this takes, the one for
which it is picked among them, only depends on what is picked: as many as there are pages in the block that do not live.
So only picks have weights here, bottom times the price less top times these writes.

Who picks may give up at a due pair. The value of a node is the greatest sum till then that who writes can come to. At
first it is given up everywhere, and the values are 0. Then, again and again, all due pairs at which another pick leads
to less take it. By this each ring is below 0: the weight of a pick is at most the value here less the value there, and
less than that where it was taken just now. So values only fall; some come to be below all numbers, where it is not
given up any more at all.

In the end, if the value of the start is below all numbers, these picks hold less than the rate. If it is a number, who
writes always goes where the value is greatest, and no pick leads to less than the value: no ring is below 0.
"""

from spareblocks.games import order_worn


class Duel:
    """A game with weights: weighed has triples (number behind, weight, link) for each due pair."""

    def __init__(self, game, costs, top, bottom):
        self.game = game
        self.order = order_worn(game)
        self.ways = [[after for move, after in row] for row in game.links]
        self.weighed = {number: weigh_picks(game, number, costs, top, bottom) for number in game.due}
        greatest = max([abs(weight) for row in list(self.weighed.values()) for after, weight, link in row])
        # Stands for all that is below all numbers; no sum of weights comes near it.
        self.abyss = -2 * (len(game.due) + 1) * greatest - 1
        self.choices = {}
        self.worths = [0] * len(game.nodes)


def weigh_picks(game, number, costs, top, bottom):
    """The links of a due pair with their weights."""
    closed = game.nodes[number][0][0]
    weighed = []
    for link in game.links[number]:
        living = closed[link[0]]
        weighed.append((link[1], bottom * costs[living] - top * (game.drive.pages - living), link))
    return weighed


def fight(game, costs, top, bottom):
    """The duel at its end."""
    duel = Duel(game, costs, top, bottom)
    while change_minds(duel):
        value_nodes(duel)
    return duel


def holds_less(duel):
    """Whether who picks holds less than the rate."""
    return duel.worths[0] == duel.abyss


def change_minds(duel):
    """Takes better picks where there are some; whether there are."""
    changed = False
    for number in duel.game.due:
        least = duel.worths[number]
        for pick in duel.weighed[number]:
            after, weight, link = pick
            # What is below all numbers cannot be better.
            if weight + duel.worths[after] < least and least > duel.abyss:
                least = weight + duel.worths[after]
                duel.choices[number] = pick
                changed = True
    return changed


def value_nodes(duel):
    """Finds the values for the picks that are chosen, from below."""
    for number in duel.game.due:
        duel.worths[number] = duel.abyss if number in duel.choices else 0
    spread_worths(duel)
    while raise_worths(duel):
        spread_worths(duel)


def spread_worths(duel):
    """Who writes goes where the value is greatest."""
    worths = duel.worths
    for number in duel.order:
        worths[number] = max([worths[after] for after in duel.ways[number]])


def raise_worths(duel):
    """Raises the values of the due pairs to what is behind their picks; whether one was raised."""
    raised = False
    for number, (after, weight, link) in duel.choices.items():
        if duel.worths[after] > duel.abyss and weight + duel.worths[after] > duel.worths[number]:
            duel.worths[number] = weight + duel.worths[after]
            raised = True
    return raised
