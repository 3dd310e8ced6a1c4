"""How the erasures of two blocks drift apart.

All blocks stand in one row (reaching.py). A node tells the number of a stand and the places of two blocks in the row,
the height is how often the first one has been erased more often than the second one. At the start all pairs of blocks
stand somewhere, and cleaning only changes their places; so each node of a stand that can be reached can be come to.
"""

from spareblocks.webs import TRIM, WRITE, find_trims, find_writes


def shift(blocks, picked, place):
    """The place of a block behind one cleaning."""
    if place == picked:
        return blocks - 1
    return place - 1 if place > picked else place


def turn_pair(blocks, picks, pair):
    """Behind these cleanings: (pair, gain, peak)."""
    first, second = divmod(pair, blocks)
    gain = 0
    peak = 0
    for picked in picks:
        if picked == first:
            gain += 1
        elif picked == second:
            gain -= 1
        peak = max(peak, gain)
        first = shift(blocks, picked, first)
        second = shift(blocks, picked, second)
    return first * blocks + second, gain, peak


class Wear:
    """The nodes of a web: stand * size + pair, a pair being first * blocks + second, the places of two blocks."""

    def __init__(self, web, blocks):
        self.web = web
        self.count = blocks
        self.size = blocks * blocks
        self.pairs = [first * blocks + second for first in range(blocks) for second in range(blocks)
                      if first != second]
        self.turns = {}
        self.found = {}

    def find_starts(self):
        """The nodes of the start."""
        return list(self.pairs)

    def find_events(self, node):
        """The events at a node, as climbing.py asks for them."""
        if node not in self.found:
            number, pair = divmod(node, self.size)
            events = []
            for place, after, copied, erased, picks in find_writes(self.web, number):
                behind, gain, peak = find_turns(self, picks)[pair]
                events.append(((WRITE, place), after * self.size + behind, gain, peak))
            for place, after in find_trims(self.web, number):
                events.append(((TRIM, place), after * self.size + pair, 0, 0))
            self.found[node] = events
        return self.found[node]


def find_turns(wear, picks):
    """What these cleanings do to each pair."""
    if picks not in wear.turns:
        wear.turns[picks] = [turn_pair(wear.count, picks, pair) for pair in range(wear.size)]
    return wear.turns[picks]
