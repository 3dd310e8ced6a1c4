"""Prices of events: the links of a web, and the greatest quotient of price and writes over its rings.

A link is here (number, price, writes), writes being 1 for a write and 0 for a trim.
"""

from spareblocks.longest import settle
from spareblocks.webs import find_needed_writes, find_trims


def price_links(web, copies, erasures):
    """The links of each number; none for those that cannot be reached."""
    links = [[] for stand in web.stands]
    for number in web.reached:
        for place, after, copied, erased, picks in find_needed_writes(web, number):
            links[number].append((after, copies * copied + erasures * erased, 1))
        for place, after in find_trims(web, number):
            links[number].append((after, 0, 0))
    return links


def weigh_links(links, top, bottom):
    """The net with the weights bottom times the price less top times the writes."""
    return [[(after, bottom * price - top * writes) for after, price, writes in row] for row in links]


class Rate:
    """The greatest quotient top / bottom of price and writes over rings, and one with it.

    The sums are bottom times the greatest debts. The ring is a list of pairs (number, index of its link), empty if no
    ring costs anything.
    """

    def __init__(self, top, bottom, ring):
        self.top = top
        self.bottom = bottom
        self.ring = ring
        self.sums = []


def steepest(links, rings):
    """The greatest rate of these rings."""
    best = None
    for ring in rings:
        price = sum([links[number][at][1] for number, at in ring])
        writes = sum([links[number][at][2] for number, at in ring])
        if best is None or price * best.bottom > best.top * writes:
            best = Rate(price, writes, ring)
    return best


def find_rate(web, copies, erasures):
    """The rate of a web."""
    return find_greatest(price_links(web, copies, erasures), web.reached[::-1])


def find_greatest(links, order):
    """The rate of these links; the order is that of longest.py.

    Each ring that is found to be above 0 has a greater quotient than the one before, and there are finitely many.
    """
    best = Rate(0, 1, [])
    rings = raise_sums(links, order, best)
    while rings:
        best = steepest(links, rings)
        rings = raise_sums(links, order, best)
    return best


def raise_sums(links, order, best):
    """Sets the greatest sums at a rate; returns some rings with a greater one, or none if the sums are right."""
    best.sums = [0] * len(links)
    return settle(weigh_links(links, best.top, best.bottom), order, best.sums)
