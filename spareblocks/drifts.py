"""How far the erasures of two blocks of a drive can drift apart.

If it is always the block that was closed first that is picked, all blocks are erased by turns, and the drift is 1.

Else let another one be picked when cleaning comes to be due. Let the rest of the block into which its living pages are
copied be filled by one name, again and again, and let this name be written once more, so that it dies: then the living
pages of the closed blocks are as they were, but that those of the picked block are now the last ones (which is so by
itself if it was full). The same row picks again. Either it takes the last one of several, or the blocks ahead of the
picked one have too many living pages, or too few, now as before. So, again, it is not the first block that is picked;
this can go on for ever, the first block is never erased, and there is no greatest number.
"""

from spareblocks.bands import find_stuck, is_first_always
from spareblocks.checks import check_drive, check_more, check_trims
from spareblocks.climbing import climb
from spareblocks.errors import Sticks
from spareblocks.naming import name_places
from spareblocks.reaching import find_web
from spareblocks.wearing import Wear


def drift(drive, *, trims=True):
    """By how much one block can have been erased more often than another one; None if there is no greatest number."""
    check_drive(drive)
    check_trims(trims)
    if find_stuck(drive) is not None:
        raise Sticks()
    return 1 if is_first_always(drive) else None


def drift_load(drive, more, *, trims=True):
    """A shortest load at some time of which two blocks differ by more than this; None if there is none."""
    check_drive(drive)
    check_more(more)
    check_trims(trims)
    events = climb(Wear(find_web(drive, trims), drive.blocks), more + 1)
    return None if events is None else name_places(drive, events)
