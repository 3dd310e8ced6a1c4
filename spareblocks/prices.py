"""Prices of events: the links of a web, and the greatest quotient of price and writes over its rings.

A link is here (number, price, writes), writes being 1 for a write and 0 for a trim.
"""

from spareblocks.longest import settle
from spareblocks.webs import find_needed_writes, find_trims


def price_links(web, copies, erasures):
    """The links of each number; none for those that cannot be reached."""
    links = [[] for stand in web.stands]
    for number in web.reached:
        for place, after, copied, erased, picks in find_needed_writes(web, number):
            links[number].append((after, copies * copied + erasures * erased, 1))
        for place, after in find_trims(web, number):
            links[number].append((after, 0, 0))
    return links


def weigh_links(links, top, bottom):
    """The net with the weights bottom times the price less top times the writes."""
    return [[(after, bottom * price - top * writes) for after, price, writes in row] for row in links]


def steepest(links, rings):
    """The greatest pair (price, writes), as a quotient, of these rings."""
    best = None
    for ring in rings:
        price = sum([links[number][at][1] for number, at in ring])
        writes = sum([links[number][at][2] for number, at in ring])
        if best is None or price * best[1] > best[0] * writes:
            best = (price, writes)
    return best


def find_rate(web, copies, erasures):
    """The triple (top, bottom, sums) of the links of a web."""
    return find_greatest(price_links(web, copies, erasures), web.reached[::-1])


def find_greatest(links, order):
    """The triple (top, bottom, sums): the rate is top / bottom, sums are bottom times the greatest debts.

    Each ring that is found to be above 0 has a greater quotient than the one before, and there are finitely many. The
    order is that of longest.py.
    """
    top, bottom = 0, 1
    sums = [0] * len(links)
    rings = settle(weigh_links(links, top, bottom), order, sums)
    while rings:
        top, bottom = steepest(links, rings)
        sums = [0] * len(links)
        rings = settle(weigh_links(links, top, bottom), order, sums)
    return top, bottom, sums
