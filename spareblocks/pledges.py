"""Claims of a book: their form, the names in them, and whether they hold."""

from spareblocks.best import best_rate, is_best
from spareblocks.checks import MOST_RATIO
from spareblocks.comparing import never_more, worse_load
from spareblocks.errors import Broken, NotAsked, OtherNames, Sticks, TooMany
from spareblocks.kinds import is_within
from spareblocks.rates import rate

RATE = "rate"
NEVER_MORE = "never more"
BEST = "best"

# How many elements a claim with each word has.
LENGTHS = {"rate": 4, "never more": 3, "best": 2}


def is_claim(value):
    """Whether it has the form of a claim, whatever stands in the places of names."""
    if not isinstance(value, tuple) or not value or not isinstance(value[0], str):
        return False
    if LENGTHS.get(value[0]) != len(value):
        return False
    return value[0] != RATE or is_within(value[2], 0, MOST_RATIO) and is_within(value[3], 1, MOST_RATIO)


def names_in(claim):
    """The names of drives in a claim."""
    return claim[1:3] if claim[0] == NEVER_MORE else claim[1:2]


def demand(drives, claim, index):
    """Raises an error, with this index, if the claim cannot be asked, or does not hold."""
    try:
        holds, shown = judge(drives, claim)
    except (OtherNames, Sticks, TooMany) as why:
        raise NotAsked(index) from why
    if not holds:
        raise Broken(index, shown)


def judge(drives, claim):
    """Whether the claim holds, and what is shown if it does not."""
    drive = drives[claim[1]]
    if claim[0] == RATE:
        told = rate(drive)
        return told[0] * claim[3] <= claim[2] * told[1], told
    if claim[0] == BEST:
        return (True, None) if is_best(drive) else (False, best_rate(drive))
    other = drives[claim[2]]
    return (True, None) if never_more(drive, other) else (False, worse_load(drive, other))
