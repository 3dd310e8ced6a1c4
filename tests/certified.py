"""Whether certificates of the right form are right, told by walks of the tests' own.

Nothing here uses the package, so that the tests compare it with something else.
"""

import functools

from tests.helper import Played
from tests.picked import ends, is_due, led_to, table_links, walk_picked
from tests.walks import Sticking, first_node, play, walk_all

walk_once = functools.lru_cache(maxsize=None)(lambda parts, trims: walk_all([parts], trims))
picked_once = functools.lru_cache(maxsize=None)(walk_picked)


def as_dict(pairs):
    """The dict of these pairs; None if a key stands twice."""
    told = dict(pairs)
    return told if len(told) == len(pairs) else None


def right_at_most(parts, copies, erasures, trims, top, bottom, debt, certificate):
    try:
        web = walk_once(parts, trims)
    except Sticking:
        return False
    worths = as_dict(certificate)
    if worths is None or set(worths) != set(web) or min(worths.values()) < 0 or worths[first_node(web)] > debt:
        return False
    return all([bottom * link.price(copies, erasures) - top * link.writes + worths[link.after] <= worths[stand]
                for stand, row in web.items() for link in row])


def stand_behind(parts, load):
    drive = Played(*parts)
    for word, name in load:
        drive.do(word, name)
    return drive.stand()


def right_at_least(parts, copies, erasures, trims, top, bottom, certificate):
    way, ring = certificate
    load = way + ring
    try:
        told = play(parts, load)[len(way):]
    except AssertionError:
        return False
    if len(load) > 2000 or not trims and any([word == "trim" for word, name in load]):
        return False
    writes = [event for event in told if event[0] == "write"]
    price = sum(copies * copied + erasures * len(erased) for word, copied, erased in told)
    return bool(writes) and stand_behind(parts, way) == stand_behind(parts, load) and bottom * price >= top * len(writes)


def right_holds(sizes, copies, erasures, trims, drift, top, bottom, certificate):
    web = picked_once(*sizes, trims, drift)
    picks, worths = [as_dict(pairs) for pairs in certificate]
    if picks is None or worths is None:
        return False
    nodes, missing = led_to(web, picks)
    if missing:
        return False
    links = table_links(web, picks)
    # A pick beyond the drift leads nowhere in this web.
    if not ends(links) if all([links[node] for node in links]) else True:
        return False
    worn = [node for node in links if not is_due(node)]
    if set(worths) != set(worn) or min(worths.values()) < 0:
        return False
    for node in worn:
        for link in links[node]:
            price, after = 0, link.after
            while is_due(after):
                price += links[after][0].price(copies, erasures)
                after = links[after][0].after
            if bottom * price - top * link.writes + worths[after] > worths[node]:
                return False
    return True


def all_ends(web, node, copies, erasures, before=()):
    """All worn stands to which picks lead from here, with prices; those that come round are left out."""
    if not is_due(node):
        return [(node, 0)]
    found = []
    for link in web[node]:
        if link.after not in before + (node,):
            for end, price in all_ends(web, link.after, copies, erasures, before + (node,)):
                found.append((end, price + link.price(copies, erasures)))
    return found


def right_forces(sizes, copies, erasures, trims, drift, top, bottom, certificate):
    web = picked_once(*sizes, trims, drift)
    if not all([worth <= 0 for stand, move, worth in certificate]):
        return False
    told = as_dict([(stand, (move, worth)) for stand, move, worth in certificate])
    if told is None:
        return False
    start = next(iter(web))
    met, waiting = {start}, [start]
    while waiting:
        node = waiting.pop()
        if node not in told:
            return False
        move, worth = told[node]
        made = [link for link in web[node] if link.label == move]
        if not made:
            return False
        for end, price in all_ends(web, made[0].after, copies, erasures):
            if end not in told or bottom * price - top * made[0].writes + told[end][1] < worth:
                return False
            if end not in met:
                met.add(end)
                waiting.append(end)
    return met == set(told)


def right_more(one, other, copies, erasures, more, load):
    try:
        prices = [sum(copies * copied + erasures * len(erased) for word, copied, erased in play(parts, load))
                  for parts in (one, other)]
    except AssertionError:
        return False
    return len(load) <= 2000 and one[2] == other[2] and prices[0] - prices[1] > more
