"""Checks of parameters that many functions have; each raises the error that belongs to it."""

from spareblocks.drives import Drive
from spareblocks.errors import InvalidDrift, InvalidFlag, InvalidNumber, InvalidPrice, NotADrive, OtherNames
from spareblocks.kinds import is_within
from spareblocks.limits import MOST_PRICE, MOST_WRITES

MOST_MORE = 20
MOST_DRIFT = 3
MOST_RATIO = 1000


def check_drive(drive):
    """Raises NotADrive if it is none."""
    if not isinstance(drive, Drive):
        raise NotADrive(drive)


def check_pair(one, other):
    """Raises an error if these are not two drives with the same room for names."""
    check_drive(one)
    check_drive(other)
    if one.names != other.names:
        raise OtherNames()


def check_writes(number):
    """Raises InvalidNumber if it is no number of writes that may be asked for."""
    if not is_within(number, 0, MOST_WRITES):
        raise InvalidNumber(number)


def check_more(more):
    """Raises InvalidNumber if it is no difference that may be asked for."""
    if not is_within(more, 0, MOST_MORE):
        raise InvalidNumber(more)


def check_ratio(top, bottom):
    """Raises InvalidNumber if these are no numbers of a wished rate."""
    if not is_within(top, 0, MOST_RATIO):
        raise InvalidNumber(top)
    if not is_within(bottom, 1, MOST_RATIO):
        raise InvalidNumber(bottom)


def check_terms(copies, erasures, trims):
    """Raises an error if these are no prices and no flag."""
    check_prices(copies, erasures)
    check_trims(trims)


def check_prices(copies, erasures):
    """Raises InvalidPrice if these are no prices, or both are 0."""
    if not is_within(copies, 0, MOST_PRICE):
        raise InvalidPrice(copies)
    if not is_within(erasures, 0, MOST_PRICE) or copies == erasures == 0:
        raise InvalidPrice(erasures)


def check_trims(trims):
    """Raises InvalidFlag if it is neither True nor False."""
    if trims is not True and trims is not False:
        raise InvalidFlag(trims)


def check_drift(drift):
    """Raises InvalidDrift if it is no drift that may be wished for."""
    if drift is not None and not is_within(drift, 1, MOST_DRIFT):
        raise InvalidDrift(drift)


def check_wish(drive, copies, erasures, trims, drift):
    """Raises an error if these are no arguments of what tells the best rate."""
    check_drive(drive)
    check_terms(copies, erasures, trims)
    check_drift(drift)
