"""What loads can cost one drive more than another one."""

from spareblocks.longest import settle
from spareblocks.prices import price_links, weigh_links
from spareblocks.webs import TRIM, WRITE, find_trims, find_writes


def find_gap(web, copies, erasures):
    """The greatest price over all loads, on the web of joint stands; None if there is none."""
    net = weigh_links(price_links(web, copies, erasures), 0, 1)
    sums = [0] * len(net)
    if settle(net, web.reached[::-1], sums):
        return None
    return sums[0]


class Gap:
    """The web of joint stands as climbing.py asks for it; the height is the price of the one less that of the other."""

    def __init__(self, web, copies, erasures):
        self.web = web
        self.copies = copies
        self.erasures = erasures
        self.found = {}

    def find_starts(self):
        """The number of the start."""
        return [0]

    def find_events(self, number):
        """The events at a joint stand."""
        if number not in self.found:
            events = []
            for places, after, copied, erased, picks in find_writes(self.web, number):
                price = self.copies * copied + self.erasures * erased
                events.append(((WRITE, places), after, price, price))
            for places, after in find_trims(self.web, number):
                events.append(((TRIM, places), after, 0, 0))
            self.found[number] = events
        return self.found[number]
