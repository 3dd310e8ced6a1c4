"""The least number that picks can keep as the price of each single write."""

from spareblocks.games import order_worn


def find_pause(game, costs):
    """The best pause of a game.

    A limit is tried, from 0 on. If it cannot be kept, then no number can that is less than the least price that was
    found to be too great for it: with that number all would go on as with the limit.
    """
    order = order_worn(game)
    # More than any price that is found: each pick costs less than the last of the costs and 1 together.
    beyond = (len(game.due) + 1) * (costs[-1] + 1)
    limit = 0
    bounds = find_bounds(game, order, costs, limit, beyond)
    while bounds[0] > 0:
        limit = min([bounds[number] for number in game.due if bounds[number] > limit])
        bounds = find_bounds(game, order, costs, limit, beyond)
    return limit


def find_bounds(game, order, costs, limit, beyond):
    """What who picks must pay from each node on for one write, to be able to keep the limit from then on.

    It is found by raising lower bounds. For a worn stand it is 0, or beyond all prices if the limit cannot be kept.
    """
    bounds = [0] * len(game.nodes)
    raised = True
    while raised:
        for number in order:
            if max([bounds[after] for move, after in game.links[number]]) > limit:
                bounds[number] = beyond
        raised = raise_prices(game, costs, limit, bounds)
    return bounds


def raise_prices(game, costs, limit, bounds):
    """Raises the bounds of the due pairs that keep the limit; whether one was raised."""
    raised = False
    for number in game.due:
        if bounds[number] <= limit:
            closed = game.nodes[number][0][0]
            least = min([costs[closed[place]] + bounds[after] for place, after in game.links[number]])
            if least > bounds[number]:
                bounds[number] = least
                raised = True
    return raised
