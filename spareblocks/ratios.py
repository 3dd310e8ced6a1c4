"""Fractions: pairs (top, bottom) in lowest terms."""


def lowest(top, bottom):
    """The fraction top / bottom, top from 0 on and bottom from 1 on."""
    one, other = top, bottom
    while other > 0:
        one, other = other, one % other
    return top // one, bottom // one
