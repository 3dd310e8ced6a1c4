"""What a drive costs for each page written: in the long run, besides, and at most."""

from spareblocks.checks import check_drive, check_terms, check_writes
from spareblocks.layers import find_layers, price_at
from spareblocks.naming import name_places
from spareblocks.prices import find_rate, price_links
from spareblocks.ratios import lowest
from spareblocks.reaching import find_web
from spareblocks.webs import TRIM, WRITE, find_trims, find_writes


def rate(drive, *, copies=1, erasures=0, trims=True):
    """The least fraction of the writes that, but for some number, no price of a load exceeds."""
    check_drive(drive)
    check_terms(copies, erasures, trims)
    told = find_rate(find_web(drive, trims), copies, erasures)
    return lowest(told.top, told.bottom)


def debt(drive, *, copies=1, erasures=0, trims=True):
    """The least such number for the rate."""
    check_drive(drive)
    check_terms(copies, erasures, trims)
    told = find_rate(find_web(drive, trims), copies, erasures)
    return lowest(told.sums[0], told.bottom)


def longest_write(drive, *, copies=1, erasures=0, trims=True):
    """The greatest price of a single write."""
    check_drive(drive)
    check_terms(copies, erasures, trims)
    links = price_links(find_web(drive, trims), copies, erasures)
    return max([price for row in links for after, price, writes in row])


def most_price(drive, number, *, copies=1, erasures=0, trims=True):
    """The greatest price of a load with so many writes."""
    check_drive(drive)
    check_writes(number)
    check_terms(copies, erasures, trims)
    layers = find_layers(find_web(drive, trims), number, copies, erasures)
    return price_at(layers, number, 0)


def costly_load(drive, number, *, copies=1, erasures=0, trims=True):
    """A load with so many writes and the greatest price."""
    check_drive(drive)
    check_writes(number)
    check_terms(copies, erasures, trims)
    web = find_web(drive, trims)
    layers = find_layers(web, number, copies, erasures)
    return name_places(drive, find_costly(web, layers, number, copies, erasures))


def find_costly(web, layers, left, copies, erasures):
    """The events (word, place) of a load with so many writes and the greatest price."""
    events = []
    number = 0
    while left > 0:
        aim = price_at(layers, left, number)
        writes = [(place, after) for place, after, copied, erased, picks in find_writes(web, number)
                  if copies * copied + erasures * erased + price_at(layers, left - 1, after) == aim]
        if writes:
            place, number = writes[0]
            events.append((WRITE, place))
            left -= 1
        else:
            # No write comes to the aim, so a trim does.
            place, number = [pair for pair in find_trims(web, number) if price_at(layers, left, pair[1]) == aim][0]
            events.append((TRIM, place))
    return events
