"""Walks of the tests' own through stands: all that is known here comes from drives that are played page by page.

Nothing here uses the package, so that the tests compare it with something else.
"""

import re

from tests.helper import Played, events_at

NAME = re.compile("[a-z][a-z0-9]{0,7}")


class Sticking(Exception):
    """A write sticks."""


class Link:
    """What an event leads to: the node behind it, and what it costs each drive."""

    def __init__(self, word, after, drives, rows):
        self.word = word
        self.after = after
        self.writes = 1 if word == "write" else 0
        self.copied = [drive.copied for drive in drives]
        self.erased = [drive.erased for drive in drives]
        self.rows = rows

    def price(self, copies, erasures, at=0):
        return self.copied[at] * copies + len(self.erased[at]) * erasures


def node_of(drives):
    """The stand of one drive, or the joint stand of two."""
    if len(drives) == 1:
        return drives[0].stand()
    cells = sorted(tuple(drive.place(name) for drive in drives) for name in drives[0].living_names())
    return tuple(drive.stand() for drive in drives) + (tuple(cells),)


def living_once(drives):
    """Of all names that live in the same places one each: which one it is does not matter."""
    found = {}
    for name in drives[0].living_names():
        found.setdefault(tuple(drive.place(name) for drive in drives), name)
    return list(found.values())


def behind(drives, word, name):
    """The drives behind an event."""
    twins = [drive.copy() for drive in drives]
    if not all([twin.do(word, name) for twin in twins]):
        raise Sticking()
    return twins


def links_of(drives, trims, may_stick):
    living = drives[0].living_names()
    useful = set(living_once(drives))
    links = []
    for word, name in events_at(living, drives[0].shape[2], trims):
        if name in useful or name not in living:
            try:
                twins = behind(drives, word, name)
            except Sticking:
                if may_stick:
                    continue
                raise
            rows = (drives[0].row(), twins[0].row())
            links.append((Link(word, node_of(twins), twins, rows), twins))
    return links


def walk_all(shapes, trims, most=10 ** 6, may_stick=False):
    """For each node to which loads lead the links from there; shapes are the parts of one or two drives.

    Raises Sticking if a write of one of them sticks, unless it may, which then leads nowhere. It ends once there are
    more nodes than most.
    """
    start = [Played(*shape) for shape in shapes]
    web = {}
    waiting = [start]
    known = {node_of(start)}
    while waiting and len(known) <= most:
        drives = waiting.pop()
        found = links_of(drives, trims, may_stick)
        web[node_of(drives)] = [link for link, twins in found]
        for link, twins in found:
            if link.after not in known:
                known.add(link.after)
                waiting.append(twins)
    return web


def first_node(web):
    """The start: the node that was put first."""
    return next(iter(web))


def play(parts, load):
    """Plays a load on a drive: a list of (word, copied, erased numbers) for each event; fails if one is not let."""
    assert type(load) is tuple, load
    drive = Played(*parts)
    told = []
    for event in load:
        assert type(event) is tuple and len(event) == 2, event
        word, name = event
        assert type(name) is str and NAME.fullmatch(name), name
        living = drive.living_names()
        assert word in ("write", "trim"), word
        assert name in living or word == "write" and len(living) < parts[2], (event, living)
        drive.copied, drive.erased = 0, []
        assert drive.do(word, name), "a write sticks"
        told.append((word, drive.copied, drive.erased))
    return told


def price_of(parts, load, copies, erasures):
    return sum(copied * copies + len(erased) * erasures for word, copied, erased in play(parts, load))


def ring_above_zero(parents, links):
    """Whether going from parent to parent comes round, the gains of the ring adding up to more than 0."""
    done = set()
    for node in parents:
        way = []
        while node in parents and node not in done:
            done.add(node)
            way.append(node)
            node = parents[node][0]
        if node in way:
            ring = way[way.index(node):]
            for at, one in enumerate(ring):
                before, gain = parents[one]
                assert before == ring[(at + 1) % len(ring)]
                assert any(after == one and gain == other for after, other, peak in links[before])
            if sum(parents[one][1] for one in ring) > 0:
                return True
    return False


def greatest_heights(links, starts):
    """For each node the greatest sum of gains with which it is come to; None if there is a ring above 0.

    links has for each node (node behind, gain, peak). Both answers show by themselves that they are right: heights
    that no link can raise any more, or the ring.
    """
    heights = {start: 0 for start in starts}
    parents = {}
    changed = dict.fromkeys(starts)
    while changed:
        raised = {}
        for node in changed:
            for after, gain, peak in links[node]:
                if heights[node] + gain > heights.get(after, heights[node] + gain - 1):
                    heights[after] = heights[node] + gain
                    parents[after] = (node, gain)
                    raised[after] = None
        changed = raised
        if ring_above_zero(parents, links):
            return None
    for node in heights:
        for after, gain, peak in links[node]:
            assert heights[after] >= heights[node] + gain
    return heights


def fewest_events(links, starts, goal):
    """The least number of links on which the sum of gains is at some time at least the goal; None if there is none.

    All pairs of a node and a sum are walked through, so this ends only where sums are bounded, or the goal is met.
    """
    layer = {(start, 0) for start in starts}
    known = set(layer)
    many = 0
    while layer:
        many += 1
        coming = set()
        for node, height in layer:
            for after, gain, peak in links[node]:
                if height + peak >= goal:
                    return many
                if (after, height + gain) not in known:
                    coming.add((after, height + gain))
        known |= coming
        layer = coming
    return None
