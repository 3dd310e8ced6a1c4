"""The stands of a drive that can be reached.

A drive is here anything that has the properties of one: drives.py asks for its
stands before the drive is done, and so is not imported.
"""

from spareblocks.rules import pick

START = ((), ())
NOTHING_WRITTEN = (0, 0)


def clean(drive, closed):
    """The pair (closed, filling) behind all cleanings that are due; None if they never end."""
    seen = set()
    while closed not in seen:
        seen.add(closed)
        place = pick(drive.rows, closed)
        living = closed[place]
        rest = closed[:place] + closed[place + 1:]
        if living < drive.pages:
            return rest, (living, living)
        closed = rest + (living,)
    return None


def make_room(drive, stand):
    """The stand with a block into which a page can go; None if cleaning never ends."""
    closed, filling = stand
    if filling:
        return stand
    free = drive.blocks - len(closed)
    if free > 1:
        return closed, NOTHING_WRITTEN
    return clean(drive, closed)


def write_page(drive, stand):
    """The stand behind a write of a name that does not live; None if it sticks."""
    room = make_room(drive, stand)
    if room is None:
        return None
    closed, (written, living) = room
    if written + 1 == drive.pages:
        return closed + (living + 1,), ()
    return closed, (written + 1, living + 1)


def let_die(stand):
    """The stands in which one page has died, one for each place where a page lives."""
    closed, filling = stand
    stands = []
    for place, living in enumerate(closed):
        if living > 0:
            stands.append((closed[:place] + (living - 1,) + closed[place + 1:], filling))
    if filling and filling[1] > 0:
        stands.append((closed, (filling[0], filling[1] - 1)))
    return stands


def count_living(stand):
    """How many names live."""
    closed, filling = stand
    return sum(closed) + (filling[1] if filling else 0)


def find_next(drive, stand):
    """The stands to which single events lead, with trims; a write that sticks leads to none."""
    trimmed = let_die(stand)
    # The old page dies before the new one is written, so a write of a living name begins as its trim does.
    grounds = list(trimmed)
    if count_living(stand) < drive.names:
        grounds.append(stand)
    written = [write_page(drive, ground) for ground in grounds]
    return trimmed + [after for after in written if after is not None]


def find_stands(drive, limit):
    """The stands that can be reached, with trims; the search ends once there are more than limit."""
    found = {START: True}
    waiting = [START]
    while waiting and len(found) <= limit:
        stand = waiting.pop()
        for after in find_next(drive, stand):
            if after not in found:
                found[after] = True
                waiting.append(after)
    return list(found)
