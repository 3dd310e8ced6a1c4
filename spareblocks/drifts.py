"""How far the erasures of two blocks of a drive can drift apart."""

from spareblocks.checks import check_drive, check_more, check_trims
from spareblocks.climbing import climb
from spareblocks.naming import name_places
from spareblocks.reaching import find_web
from spareblocks.wearing import Wear, find_greatest


def drift(drive, *, trims=True):
    """By how much one block can have been erased more often than another one; None if there is no greatest number."""
    check_drive(drive)
    check_trims(trims)
    return find_greatest(Wear(find_web(drive, trims), drive.blocks))


def drift_load(drive, more, *, trims=True):
    """A shortest load at some time of which two blocks differ by more than this; None if there is none."""
    check_drive(drive)
    check_more(more)
    check_trims(trims)
    events = climb(Wear(find_web(drive, trims), drive.blocks), more + 1)
    return None if events is None else name_places(drive, events)
