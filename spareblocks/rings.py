"""Ways through a web, and rings that cost as much as the rate."""

from spareblocks.webs import TRIM, WRITE, find_needed_writes, find_trims, find_writes


def list_events(web, number):
    """For each event: ((word, place), number behind it)."""
    writes = [((WRITE, place), after) for place, after, copied, erased, picks in find_writes(web, number)]
    return writes + [((TRIM, place), after) for place, after in find_trims(web, number)]


def find_way(web, goal):
    """The events of a shortest way from the start to a number."""
    ways = {0: []}
    layer = [0]
    while goal not in ways:
        coming = []
        for number in layer:
            for event, after in list_events(web, number):
                if after not in ways:
                    ways[after] = ways[number] + [event]
                    coming.append(after)
        layer = coming
    return ways[goal]


def find_ring(web, rate):
    """A number, and the events that lead from there back to it and cost as much as the rate."""
    if not rate.ring:
        return find_free_ring(web)
    events = []
    for number, at in rate.ring:
        # The links of prices.py are these writes, and the trims behind them.
        writes = [(WRITE, write[0]) for write in find_needed_writes(web, number)]
        trims = [(TRIM, place) for place, after in find_trims(web, number)]
        events.append((writes + trims)[at])
    return rate.ring[0][0], events


def find_free_ring(web):
    """A ring of writes, any one: if the rate is 0 none costs less."""
    order = {}
    number = 0
    events = []
    while number not in order:
        order[number] = len(events)
        place, after, copied, erased, picks = find_writes(web, number)[0]
        events.append((WRITE, place))
        number = after
    return number, events[order[number]:]
