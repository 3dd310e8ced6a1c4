"""Stands of one drive, and what single events do to them.

A place is the index of a closed block, or, for the open one, the number of the closed ones. All blocks stand in one
row: the closed ones in their order, the open one, the free ones in theirs. Opening and closing a block change nothing
in this row, and cleaning takes the picked block out and puts it at the end.
"""

from spareblocks.bands import find_stuck
from spareblocks.errors import Sticks
from spareblocks.limits import MOST_STANDS
from spareblocks.rules import pick
from spareblocks.webs import explore

START = ((), ())
NOTHING_WRITTEN = (0, 0)


def clean(drive, closed):
    """What cleaning until there is room leads to: (closed, filling, copied, picks); None if it never ends."""
    seen = set()
    copied = 0
    picks = []
    while closed not in seen:
        seen.add(closed)
        place = pick(drive.rows, closed)
        living = closed[place]
        rest = closed[:place] + closed[place + 1:]
        copied += living
        picks.append(place)
        if living < drive.pages:
            return rest, (living, living), copied, tuple(picks)
        closed = rest + (living,)
    return None


def make_room(drive, stand):
    """What is there when a page can be written: (closed, filling, copied, picks); None if cleaning never ends."""
    closed, filling = stand
    if filling:
        return closed, filling, 0, ()
    if drive.blocks - len(closed) > 1:
        return closed, NOTHING_WRITTEN, 0, ()
    return clean(drive, closed)


def write_page(drive, stand):
    """What a write of a name that does not live leads to: (stand, copied, picks); None if it sticks."""
    room = make_room(drive, stand)
    if room is None:
        return None
    closed, (written, living), copied, picks = room
    if written + 1 == drive.pages:
        return (closed + (living + 1,), ()), copied, picks
    return (closed, (written + 1, living + 1)), copied, picks


def let_die(stand):
    """For each place where a page lives the pair of it and of the stand in which one of its pages has died."""
    closed, filling = stand
    stands = []
    for place, living in enumerate(closed):
        if living > 0:
            stands.append((place, (closed[:place] + (living - 1,) + closed[place + 1:], filling)))
    if filling and filling[1] > 0:
        stands.append((len(closed), (closed, (filling[0], filling[1] - 1))))
    return stands


def count_living(stand):
    """How many names live."""
    closed, filling = stand
    return sum(closed) + (filling[1] if filling else 0)


def last_place(stand):
    """The place into which the last write went."""
    closed, filling = stand
    return len(closed) if filling else len(closed) - 1


def carry(drive, picks, place):
    """The place to which cleaning with these picks brings the pages of a place."""
    for picked in picks:
        if place == picked:
            # They are copied into the block that was free, which stands behind the closed ones that are left.
            place = drive.blocks - 2
        elif place > picked:
            place -= 1
    return place


class Single:
    """The stands of one drive, as webs.py asks for them."""

    def __init__(self, drive):
        self.drive = drive

    def begin(self):
        """The stand behind no event."""
        return START

    def find_grounds(self, stand):
        """The pairs (place, stand) for all places where one page can die."""
        return let_die(stand)

    def has_room(self, stand):
        """Whether one name more can live."""
        return count_living(stand) < self.drive.names

    def find_growth(self, stand):
        """What a write of a name that does not live leads to: (stand, copied, erased, picks)."""
        after, copied, picks = write_page(self.drive, stand)
        return after, copied, len(picks), picks


def find_web(drive, trims):
    """The web of the stands of a drive that can be reached; raises Sticks if a write can stick."""
    if find_stuck(drive) is not None:
        raise Sticks()
    return explore(Single(drive), trims, MOST_STANDS)


def find_stands(drive, trims):
    """All stands of a drive that can be reached; writes may stick, and lead nowhere then."""
    found = {START: True}
    grown = {}
    waiting = [START]
    while waiting:
        stand = waiting.pop()
        grounds = [ground for place, ground in let_die(stand)]
        nexts = list(grounds) if trims else []
        if count_living(stand) < drive.names:
            grounds.append(stand)
        for ground in grounds:
            if ground not in grown:
                grown[ground] = write_page(drive, ground)
                nexts.extend([grown[ground][0]] if grown[ground] is not None else [])
        for after in nexts:
            if after not in found:
                found[after] = True
                waiting.append(after)
    return list(found)
