"""What a drive must be like so that its rate is low enough."""

from spareblocks.checks import check_drive, check_ratio, check_terms
from spareblocks.errors import BadValue, InvalidIndex, Sticks, TooMany
from spareblocks.kinds import is_within
from spareblocks.limits import LEAST_BLOCKS, MOST_BLOCKS
from spareblocks.rates import rate


def blocks_for(drive, top, bottom, *, copies=1, erasures=0, trims=True):
    """The least number of blocks with which the rate is at most top / bottom; None if there is none."""
    check_drive(drive)
    check_ratio(top, bottom)
    check_terms(copies, erasures, trims)
    for blocks in range(LEAST_BLOCKS, MOST_BLOCKS + 1):
        other = change_blocks(drive, blocks)
        if other is not None and is_enough(other, top, bottom, copies, erasures, trims):
            return blocks
    return None


def limits_for(drive, index, top, bottom, *, copies=1, erasures=0, trims=True):
    """The limits for the row with this index with which the rate is at most top / bottom, ascending."""
    check_drive(drive)
    if not is_within(index, 0, len(drive.rows) - 2):
        raise InvalidIndex(index)
    check_ratio(top, bottom)
    check_terms(copies, erasures, trims)
    # No limit from 0 to the pages makes with_rows raise an error: how many stands there are does not depend on rows.
    return tuple([limit for limit in range(drive.pages + 1)
                  if is_enough(change_limit(drive, index, limit), top, bottom, copies, erasures, trims)])


def change_blocks(drive, blocks):
    """The drive with so many blocks, None if there is none."""
    try:
        return drive.with_blocks(blocks)
    except (BadValue, TooMany):
        return None


def change_limit(drive, index, limit):
    """The drive with another limit in the row with this index."""
    row = (limit, drive.rows[index][1])
    return drive.with_rows(drive.rows[:index] + (row,) + drive.rows[index + 1:])


def is_enough(drive, top, bottom, copies, erasures, trims):
    """Whether no write sticks, and the rate is at most top / bottom."""
    try:
        told = rate(drive, copies=copies, erasures=erasures, trims=trims)
    except Sticks:
        return False
    return told[0] * bottom <= top * told[1]
