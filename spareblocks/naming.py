"""Loads from walks: events that tell places become events that tell names.

A walk is a list of pairs (word, places), places being a tuple with one place for each drive, or None for a write of
a name that does not live. All drives get the same load.
"""

from spareblocks.reaching import START, carry, last_place, let_die, write_page
from spareblocks.webs import WRITE


class Seats:
    """Where the names live on one drive."""

    def __init__(self, drive):
        self.drive = drive
        self.stand = START
        self.places = {}


def remove_name(seats, name):
    """Lets the page of a name die."""
    seats.stand = dict(let_die(seats.stand))[seats.places.pop(name)]


def write_name(seats, name):
    """Writes a name that does not live."""
    seats.stand, copied, picks = write_page(seats.drive, seats.stand)
    seats.places = {other: carry(seats.drive, picks, place) for other, place in seats.places.items()}
    seats.places[name] = last_place(seats.stand)


def find_name(rows, places):
    """A name that lives in these places, or one that does not live."""
    first = rows[0]
    if places is None:
        # There is room for one more, so not all of these live.
        pool = [f"n{index}" for index in range(first.drive.names)]
        return [name for name in pool if name not in first.places][0]
    return [name for name in first.places if tuple([seats.places[name] for seats in rows]) == places][0]


def name_places(drive, events):
    """The load with these events (word, place) on one drive."""
    return name_walk([drive], [(word, None if place is None else (place,)) for word, place in events])


def name_walk(drives, walk):
    """The load that goes this walk on each of these drives."""
    rows = [Seats(drive) for drive in drives]
    load = []
    for word, places in walk:
        name = find_name(rows, places)
        for seats in rows:
            if places is not None:
                remove_name(seats, name)
            if word == WRITE:
                write_name(seats, name)
        load.append((word, name))
    return tuple(load)
