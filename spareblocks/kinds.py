"""Which values count as which kind."""

LETTERS = "abcdefghijklmnopqrstuvwxyz"
DIGITS = "0123456789"
MOST_CHARACTERS = 8


def is_integer(value):
    """Whether it is an integer; True and False are none."""
    return isinstance(value, int) and not isinstance(value, bool)


def is_within(value, least, most):
    """Whether it is an integer from least to most."""
    return is_integer(value) and least <= value <= most


def is_name(value):
    """Whether it is a name: a letter, and behind it up to seven letters or digits."""
    if not isinstance(value, str) or not 1 <= len(value) <= MOST_CHARACTERS or value[0] not in LETTERS:
        return False
    return all([character in LETTERS or character in DIGITS for character in value])
