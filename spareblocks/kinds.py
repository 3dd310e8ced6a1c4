"""Which values count as which kind."""


def is_integer(value):
    """Whether it is an integer; True and False are none."""
    return isinstance(value, int) and not isinstance(value, bool)


def is_within(value, least, most):
    """Whether it is an integer from least to most."""
    return is_integer(value) and least <= value <= most
