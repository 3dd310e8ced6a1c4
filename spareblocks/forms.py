"""Forms of claims for the checker, and of what stands in certificates. What is asked here may be any value."""

from spareblocks.drives import Drive
from spareblocks.errors import InvalidText
from spareblocks.kinds import is_integer, is_within
from spareblocks.limits import MOST_PRICE


def has_length(value, length):
    """Whether it is a tuple with so many elements."""
    return isinstance(value, tuple) and len(value) == length


def is_from(value, least):
    """Whether it is an integer from least on."""
    return is_integer(value) and value >= least


def are_integers(value, length):
    """Whether it is a tuple of so many integers from 0 on."""
    return has_length(value, length) and all([is_from(number, 0) for number in value])


def are_prices(copies, erasures):
    """Whether these are prices."""
    return is_within(copies, 0, MOST_PRICE) and is_within(erasures, 0, MOST_PRICE) and copies + erasures > 0


def is_truth(value):
    """Whether it is True or False."""
    return value is True or value is False


def are_pairs(value, length):
    """Whether it is a tuple of so many pairs of integers from 0 on."""
    return has_length(value, length) and all([are_integers(pair, 2) for pair in value])


def is_stand(value):
    """Whether it has the form of a stand."""
    if not has_length(value, 2) or not isinstance(value[0], tuple):
        return False
    closed, filling = value
    return are_integers(closed, len(closed)) and (has_length(filling, 0) or are_integers(filling, 2))


def is_worn(value):
    """Whether it has the form of a worn stand."""
    if not has_length(value, 3) or not isinstance(value[0], tuple) or not isinstance(value[2], tuple):
        return False
    closed, filling, free = value
    if not are_pairs(closed, len(closed)) or not are_integers(free, len(free)):
        return False
    return has_length(filling, 0) or are_integers(filling, 3)


def is_due(value, sides):
    """Whether it has the form of a due pair with so many closed blocks."""
    return has_length(value, 2) and are_pairs(value[0], sides) and is_from(value[1], 0)


def read_drive(text):
    """The drive with this text, None if there is none."""
    try:
        return Drive.read(text)
    except InvalidText:
        return None
