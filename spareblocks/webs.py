"""Webs: all stands that can be reached, numbered, and what single events do to them.

A write lets a page die, or none, and then brings a new one. So all that is asked of a stand is in which stands one of
its pages has died (its grounds), and what a write of a name that does not live leads to (its growth). Without trims a
ground need not be a stand that can be reached.
"""

WRITE = "write"
TRIM = "trim"


class Web:
    """Stands, numbered from 0 on; 0 is the start."""

    def __init__(self, trims):
        self.trims = trims
        self.stands = []
        self.numbers = {}
        # For each number: pairs (place, number) of its grounds, if it can be reached.
        self.grounds = []
        # For each number: (number, copied, erased, picks), None where no write was asked for.
        self.growths = []
        self.marks = []
        self.reached = []


def number_stand(web, stand):
    """The number of a stand, a new one if it has none."""
    number = web.numbers.get(stand)
    if number is None:
        number = len(web.stands)
        web.numbers[stand] = number
        web.stands.append(stand)
        web.grounds.append([])
        web.growths.append(None)
        web.marks.append(False)
    return number


def reach(web, number):
    """Notes that this one can be reached."""
    if not web.marks[number]:
        web.marks[number] = True
        web.reached.append(number)


def grow(web, source, number):
    """Notes what a write of a name that does not live leads to from here."""
    if web.growths[number] is None:
        after, copied, erased, picks = source.find_growth(web.stands[number])
        behind = number_stand(web, after)
        web.growths[number] = (behind, copied, erased, picks)
        reach(web, behind)


def visit(web, source, number):
    """Notes all that single events lead to from here."""
    stand = web.stands[number]
    for place, ground in source.find_grounds(stand):
        low = number_stand(web, ground)
        web.grounds[number].append((place, low))
        if web.trims:
            reach(web, low)
        else:
            grow(web, source, low)
    if source.has_room(stand):
        grow(web, source, number)


def explore(source, trims, limit):
    """The web of a source of stands; the search ends once more than limit stands are reached."""
    web = Web(trims)
    reach(web, number_stand(web, source.begin()))
    done = 0
    while done < len(web.reached) and len(web.reached) <= limit:
        visit(web, source, web.reached[done])
        done += 1
    return web


def find_writes(web, number):
    """For each write: (place, number, copied, erased, picks); the place is None for a name that does not live."""
    writes = []
    for place, low in web.grounds[number]:
        after, copied, erased, picks = web.growths[low]
        writes.append((place, after, copied, erased, picks))
    # Where there is no room for one name more there is no growth.
    if web.growths[number] is not None:
        after, copied, erased, picks = web.growths[number]
        writes.append((None, after, copied, erased, picks))
    return writes


def find_needed_writes(web, number):
    """As find_writes, without those that do nothing but what a trim and a write behind it do."""
    writes = find_writes(web, number)
    if web.trims:
        return [write for write in writes if write[0] is None]
    return writes


def find_trims(web, number):
    """For each trim: (place, number)."""
    return web.grounds[number] if web.trims else []
