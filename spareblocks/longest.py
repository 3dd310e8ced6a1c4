"""Greatest sums of weights over walks.

A net has a list of links (number, weight) for each number from 0 on; a walk goes from link to link, and may end
anywhere. The greatest sum from each number is searched by raising lower bounds: a bound that is raised becomes the
weight of a link, its choice, and the bound behind that link. Bounds only rise, so later too no bound is greater than
the weight of its choice and the bound behind it. Hence, if the choices come to make a ring, its weights add up to more
than 0: going round it, the bound that was raised last is not only reached but was less before. And if some ring is
above 0 the bounds rise until the choices make one. So exactly one of both is found: the greatest sums, or rings.
"""


def raise_bounds(net, order, bounds, choices):
    """Raises each bound, in this order, by the best single link; whether one was raised."""
    raised = False
    for number in order:
        best = bounds[number]
        for at, (after, weight) in enumerate(net[number]):
            if weight + bounds[after] > best:
                best = weight + bounds[after]
                choices[number] = at
        if best > bounds[number]:
            bounds[number] = best
            raised = True
    return raised


def find_rings(net, order, choices):
    """The rings that the choices make, each as the list of its numbers."""
    turns = [0] * len(net)
    rings = []
    for turn, number in enumerate(order, start=1):
        way = []
        while turns[number] == 0 and choices[number] is not None:
            turns[number] = turn
            way.append(number)
            number = net[number][choices[number]][0]
        if turns[number] == turn:
            rings.append(way[way.index(number):])
    return rings


def settle(net, order, bounds):
    """Raises the bounds to the greatest sums; returns no rings then, else some that are above 0.

    Each ring is a list of pairs (number, index of its link). The order tells in which order numbers are looked at,
    all that have links; the result is the same for each, the time is not.
    """
    choices = [None] * len(net)
    while raise_bounds(net, order, bounds, choices):
        rings = find_rings(net, order, choices)
        if rings:
            return [[(number, choices[number]) for number in ring] for ring in rings]
    return []
