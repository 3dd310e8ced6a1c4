"""Shortest walks on which a height comes to a goal.

A hill tells its starts, all at height 0, and for each of its nodes the events there, as (event, node behind it, gain,
peak): the gain is what the height has changed by behind the event, the peak the greatest such number at any time of it.
"""


class Trails:
    """How nodes were come to: pairs (event, index of the pair before), the index being None at a start."""

    def __init__(self):
        self.pairs = []


def extend_trail(trails, event, before):
    """The index of the trail that goes on by an event."""
    trails.pairs.append((event, before))
    return len(trails.pairs) - 1


def unroll(trails, index):
    """The events of a trail, in their order."""
    events = []
    while index is not None:
        event, index = trails.pairs[index]
        events.append(event)
    return events[::-1]


def climb(hill, goal):
    """The events of a shortest walk at some time of which the height is at least the goal; None if there is none.

    All nodes come in layers by the number of events. Of two walks to one node with as many events, or fewer, the one
    that is not higher is not needed.
    """
    trails = Trails()
    layer = {node: (0, None) for node in hill.find_starts()}
    best = {node: 0 for node in layer}
    while layer:
        behind = {}
        for node, (height, trail) in layer.items():
            for event, after, gain, peak in hill.find_events(node):
                if height + peak >= goal:
                    return unroll(trails, extend_trail(trails, event, trail))
                if height + gain > best.get(after, height + gain - 1):
                    best[after] = height + gain
                    behind[after] = (height + gain, extend_trail(trails, event, trail))
        layer = behind
    return None
