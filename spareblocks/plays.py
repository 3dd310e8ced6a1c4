"""Loads played on one drive, with the names page by page."""

from spareblocks.errors import InvalidLoad
from spareblocks.kinds import is_name
from spareblocks.limits import MOST_EVENTS
from spareblocks.rules import pick
from spareblocks.webs import TRIM, WRITE


class Play:
    """A drive with numbered blocks: lists of the names on their pages, None for those that are dead."""

    def __init__(self, drive):
        self.drive = drive
        self.content = [[] for block in range(drive.blocks)]
        self.living = [0] * drive.blocks
        self.free = list(range(drive.blocks))
        self.closed = []
        # The number of the open block, None if there is none.
        self.filling = None
        # The number of the block in which each name lives.
        self.homes = {}
        # A triple (block, cleaned, copied) for each event.
        self.told = []


def is_event(value):
    """Whether it is a pair of the word of an event and a name."""
    if not isinstance(value, tuple) or len(value) != 2:
        return False
    word, name = value
    # Only a string is compared with the words: other values may compare in any way.
    return isinstance(word, str) and word in (WRITE, TRIM) and is_name(name)


def play_load(drive, load):
    """The play behind a load; raises InvalidLoad if it is none for this drive."""
    if not isinstance(load, tuple):
        raise InvalidLoad(None)
    play = Play(drive)
    for index, event in enumerate(load):
        if index == MOST_EVENTS or not is_event(event) or not play_event(play, event):
            raise InvalidLoad(index)
    return play


def play_event(play, event):
    """Plays an event; whether it is let, and does not stick."""
    word, name = event
    if name in play.homes:
        let_name_die(play, name)
    elif word == TRIM or len(play.homes) == play.drive.names:
        return False
    if word == TRIM:
        play.told.append((None, (), 0))
        return True
    return bring_name(play, name)


def let_name_die(play, name):
    """Lets the page of a name die."""
    home = play.homes.pop(name)
    page = play.content[home].index(name)
    play.content[home][page] = None
    play.living[home] -= 1


def bring_name(play, name):
    """Writes a name that does not live; whether that ends."""
    cleaned = []
    copied = 0
    seen = set()
    while play.filling is None:
        if len(play.free) > 1:
            play.filling = play.free.pop(0)
        else:
            counts = tuple([play.living[block] for block in play.closed])
            if counts in seen:
                return False
            seen.add(counts)
            place = pick(play.drive.rows, counts)
            copied += counts[place]
            cleaned.append(play.closed[place])
            clean_place(play, place)
    play.told.append((play.filling, tuple(cleaned), copied))
    put_page(play, name)
    return True


def clean_place(play, place):
    """Copies the living pages of a closed block into the free one, and erases it."""
    picked = play.closed.pop(place)
    kept = [name for name in play.content[picked] if name is not None]
    play.content[picked] = []
    play.living[picked] = 0
    play.filling = play.free.pop(0)
    for name in kept:
        put_page(play, name)
    play.free.append(picked)


def put_page(play, name):
    """Puts a name on the next page of the open block, which is closed if it has no room any more."""
    block = play.filling
    play.content[block].append(name)
    play.living[block] += 1
    play.homes[name] = block
    if len(play.content[block]) == play.drive.pages:
        play.closed.append(block)
        play.filling = None


def stand_of(play):
    """The stand of the drive."""
    closed = tuple([play.living[block] for block in play.closed])
    if play.filling is None:
        return closed, ()
    return closed, (len(play.content[play.filling]), play.living[play.filling])
