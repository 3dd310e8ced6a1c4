"""Writes that stick."""

from spareblocks.bands import find_stuck
from spareblocks.checks import check_drive, check_trims
from spareblocks.webs import WRITE

SCRATCH = "s"


def sticks(drive, *, trims=True):
    """Whether a write can stick."""
    check_drive(drive)
    check_trims(trims)
    return find_stuck(drive) is not None


def stick_load(drive, *, trims=True):
    """A shortest load, and a name whose write sticks behind it; None if there is none.

    No load is shorter: each page of all blocks but one must have been written when cleaning comes to be due.
    """
    check_drive(drive)
    check_trims(trims)
    stuck = find_stuck(drive)
    return None if stuck is None else (fill_blocks(drive, stuck), SCRATCH)


def fill_blocks(drive, closed):
    """The load behind which the closed blocks have so many living pages, once the scratch name has died."""
    load = []
    for place, living in enumerate(closed):
        load.extend([(WRITE, SCRATCH)] * (drive.pages - living))
        load.extend([(WRITE, f"n{place}x{page}") for page in range(living)])
    return tuple(load)
