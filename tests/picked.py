"""Drives whose blocks are picked by someone, played page by page, and all worn stands to which that leads.

Nothing here uses the package, so that the tests compare it with something else.
"""

import math

from tests.helper import Played, events_at
from tests.walks import greatest_heights


class Picked(Played):
    """A drive without a rule: who plays it tells what is picked, and counts how often each block was erased."""

    def __init__(self, blocks, pages, names):
        super().__init__(blocks, pages, names, None)
        self.counts = [0] * blocks
        self.choice = None
        self.pending = None

    def copy(self):
        twin = Picked(*self.shape[:3])
        twin.content = [list(pages) for pages in self.content]
        twin.free, twin.closed, twin.current = list(self.free), list(self.closed), self.current
        twin.counts, twin.pending = list(self.counts), self.pending
        return twin

    def picked(self):
        return self.choice

    def begin(self, word, name):
        """Begins an event, and ends it unless cleaning is due."""
        self.trim(name)
        if word == "write":
            self.pending = name
            self.go_on()

    def go_on(self):
        if self.current is None and len(self.free) > 1:
            self.current = self.free.pop(0)
        if self.current is not None:
            self.put(self.pending)
            self.pending = None

    def pick(self, index):
        """Cleans a closed block, and ends the write unless cleaning is due again; how many pages were copied."""
        self.choice = self.closed[index]
        self.counts[self.choice] += 1
        copied = self.living(self.choice)
        self.clean()
        self.go_on()
        return copied

    def spread(self):
        return max(self.counts) - min(self.counts)

    def wear(self, number, drift):
        return 0 if drift is None else self.counts[number] - min(self.counts)

    def node(self, drift):
        """The worn stand, or the due pair if cleaning is due."""
        closed = tuple((self.living(number), self.wear(number, drift)) for number in self.closed)
        if self.pending is not None:
            return closed, self.wear(self.free[0], drift)
        free = tuple(self.wear(number, drift) for number in self.free)
        if self.current is None:
            return closed, (), free
        number = self.current
        return closed, (len(self.content[number]), self.living(number), self.wear(number, drift)), free


class Link:
    """What an event, or a pick, leads to."""

    def __init__(self, label, after, writes, copied, erased):
        self.label, self.after, self.writes, self.copied, self.erased = label, after, writes, copied, erased

    def price(self, copies, erasures):
        return copies * self.copied + erasures * self.erased


def moves_at(drive, trims):
    """All events that differ, with the moves of a certificate: (move, word, name)."""
    found = {}
    for word, name in events_at(drive.living_names(), drive.shape[2], trims):
        if name in drive.living_names():
            number = [number for number, pages in enumerate(drive.content) if name in pages][0]
            place = "open" if number == drive.current else drive.closed.index(number)
            found.setdefault((word, place), (word, name))
        else:
            found["new"] = (word, name)
    return [(move, word, name) for move, (word, name) in found.items()]


def links_from(drive, trims, drift):
    """Pairs of a link and the drive behind it: events at a worn stand, picks within the drift at a due pair."""
    links = []
    if drive.pending is None:
        for move, word, name in moves_at(drive, trims):
            twin = drive.copy()
            twin.begin(word, name)
            links.append((Link(move, twin.node(drift), int(word == "write"), 0, 0), twin))
    else:
        for index in range(len(drive.closed)):
            twin = drive.copy()
            copied = twin.pick(index)
            if drift is None or twin.spread() <= drift:
                links.append((Link(index, twin.node(drift), 0, copied, 1), twin))
    return links


def is_due(node):
    return len(node) == 2


def walk_picked(blocks, pages, names, trims, drift, most=10 ** 6):
    """For each worn stand, and each due pair, that can come the links from there; it ends behind so many of them."""
    start = Picked(blocks, pages, names)
    web = {}
    waiting = [start]
    known = {start.node(drift)}
    while waiting and len(web) <= most:
        drive = waiting.pop()
        found = links_from(drive, trims, drift)
        web[drive.node(drift)] = [link for link, twin in found]
        for link, twin in found:
            if link.after not in known:
                known.add(link.after)
                waiting.append(twin)
    return web


def led_to(web, table):
    """What is come to if it is picked by a table, and the due pairs among it that have no pick there."""
    start = next(iter(web))
    found = {start: None}
    waiting = [start]
    missing = []
    while waiting:
        node = waiting.pop()
        if is_due(node) and node not in table:
            missing.append(node)
            continue
        for link in web[node]:
            if (not is_due(node) or link.label == table[node]) and link.after not in found:
                found[link.after] = None
                waiting.append(link.after)
    return list(found), missing


def all_tables(web, table=None):
    """All tables, one by one, each for those due pairs only to which it leads."""
    table = {} if table is None else table
    nodes, missing = led_to(web, table)
    if not missing:
        yield table
        return
    for link in web[missing[0]]:
        yield from all_tables(web, {**table, missing[0]: link.label})


def table_links(web, table):
    """The links of each node that comes if it is picked by a table."""
    nodes, missing = led_to(web, table)
    assert not missing, missing
    return {node: [link for link in web[node] if not is_due(node) or link.label == table[node]] for node in nodes}


def weights(links, copies, erasures, top, bottom, times=1, more=0):
    """The links as greatest_heights asks for them."""
    told = {}
    for node, row in links.items():
        told[node] = []
        for link in row:
            weight = times * (bottom * link.price(copies, erasures) - top * link.writes) + more
            told[node].append((link.after, weight, max(0, weight)))
    return told


def holds_rate(links, copies, erasures, top, bottom):
    """Whether no load costs more than top / bottom for each write, but for some number."""
    return greatest_heights(weights(links, copies, erasures, top, bottom), [next(iter(links))]) is not None


def holds_less(links, copies, erasures, top, bottom):
    """Whether some lesser rate does, too: each ring is below 0."""
    told = weights(links, copies, erasures, top, bottom, len(links) + 1, 1)
    return greatest_heights(told, [next(iter(links))]) is not None


def greatest_pause(links, copies, erasures):
    """The greatest price of a single write; cleaning ends by this table."""
    found = [0]
    for node, row in links.items():
        if not is_due(node):
            for link in row:
                found.append(price_on(links, link.after, copies, erasures))
    return max(found)


def price_on(links, node, copies, erasures):
    price = 0
    while is_due(node):
        price += links[node][0].price(copies, erasures)
        node = links[node][0].after
    return price


def ends(links):
    """Whether no cleaning goes on for ever."""
    for node in links:
        met = []
        while is_due(node):
            if node in met:
                return False
            met.append(node)
            node = links[node][0].after
    return True


def forces_rate(web, copies, erasures, top, bottom, depth=400):
    """Whether who writes can keep the sums above some number, whatever is picked: shown by worths of at most 0.

    The worths are lowered until they fit: at a worn stand the best event, at a due pair the worst pick. Those that come
    to be less than the depth are given up, so that True is certain, and False is not.
    """
    beyond = -(10 ** 9)
    worths = dict.fromkeys(web, 0)
    lowered = True
    while lowered:
        lowered = False
        for node, row in web.items():
            sums = [bottom * link.price(copies, erasures) - top * link.writes + worths[link.after] for link in row]
            worth = min(0, min(sums, default=0) if is_due(node) else max(sums))
            worth = worth if worth > -depth * bottom else beyond
            if worth < worths[node]:
                worths[node] = worth
                lowered = True
    return worths[next(iter(web))] != beyond


def cheapest_ends(web, safe, copies, erasures):
    """For each due pair the least price of picks that lead to one of these worn stands."""
    costs = {node: math.inf for node in web if is_due(node)}
    lowered = True
    while lowered:
        lowered = False
        for node in costs:
            for link in web[node]:
                behind = costs[link.after] if is_due(link.after) else 0 if link.after in safe else math.inf
                if link.price(copies, erasures) + behind < costs[node]:
                    costs[node] = link.price(copies, erasures) + behind
                    lowered = True
    return costs


def is_kept(web, copies, erasures, limit):
    """Whether each single write can be kept at this price or less, from the start on for ever."""
    safe = {node for node in web if not is_due(node)}
    before = None
    while before != safe:
        costs = cheapest_ends(web, safe, copies, erasures)
        before = safe
        safe = {node for node in safe
                if all([costs[link.after] <= limit if is_due(link.after) else link.after in safe for link in web[node]])}
    return next(iter(web)) in safe


def least_pause(web, pages, copies, erasures):
    """The least price at which each single write can be kept: that of some full blocks, and of one more."""
    full = copies * pages + erasures
    prices = {0} | {many * full + copies * living + erasures for many in range(30) for living in range(pages)}
    return next(limit for limit in sorted(prices) if is_kept(web, copies, erasures, limit))
