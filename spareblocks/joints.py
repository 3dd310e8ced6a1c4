"""Joint stands of two drives with the same room for names.

A joint stand is here (number, number, cells): the numbers of both stands in their webs, and for each name that lives
the cell of its two places, ascending. Costs are those of the one less those of the other.
"""

from spareblocks.limits import MOST_BLOCKS
from spareblocks.reaching import carry, last_place


class Half:
    """One of the two drives, its web, and where cleaning brings the pages of each place."""

    def __init__(self, drive, web):
        self.drive = drive
        self.web = web
        self.lows = [dict(row) for row in web.grounds]
        self.carried = {}


def find_carried(half, picks):
    """For each place the one to which these cleanings bring its pages."""
    if picks not in half.carried:
        half.carried[picks] = [carry(half.drive, picks, place) for place in range(half.drive.blocks - 1)]
    return half.carried[picks]


def cell_of(first, second):
    """The one number for a place of the one and a place of the other."""
    return first * MOST_BLOCKS + second


def places_of(cell):
    """The two places that a cell stands for."""
    return divmod(cell, MOST_BLOCKS)


class Joint:
    """The joint stands of two drives, as webs.py asks for them."""

    def __init__(self, one, other):
        self.one = one
        self.other = other

    def begin(self):
        """The joint stand behind no event."""
        return 0, 0, ()

    def find_grounds(self, stand):
        """The pairs (places, joint stand) for all pairs of places where one name can die."""
        first, second, cells = stand
        grounds = []
        for at, cell in enumerate(cells):
            if at == 0 or cells[at - 1] != cell:
                places = places_of(cell)
                low = self.one.lows[first][places[0]]
                other_low = self.other.lows[second][places[1]]
                grounds.append((places, (low, other_low, cells[:at] + cells[at + 1:])))
        return grounds

    def has_room(self, stand):
        """Whether one name more can live."""
        return len(stand[2]) < self.one.drive.names

    def find_growth(self, stand):
        """What a write of a name that does not live leads to: (joint stand, copied, erased, picks), picks being ()."""
        first, second, cells = stand
        after, copied, erased, picks = self.one.web.growths[first]
        other_after, other_copied, other_erased, other_picks = self.other.web.growths[second]
        if picks or other_picks:
            carried = find_carried(self.one, picks)
            other_carried = find_carried(self.other, other_picks)
            cells = [cell_of(carried[places[0]], other_carried[places[1]])
                     for places in [places_of(cell) for cell in cells]]
        last = last_place(self.one.web.stands[after])
        other_last = last_place(self.other.web.stands[other_after])
        cells = tuple(sorted([*cells, cell_of(last, other_last)]))
        return (after, other_after, cells), copied - other_copied, erased - other_erased, ()
