"""The rule of a drive: its rows, and the closed block that they pick."""

from spareblocks.errors import InvalidRows
from spareblocks.kinds import is_within
from spareblocks.limits import MOST_ROWS

WORDS = ("oldest", "youngest", "least", "most")


def is_row(value, pages):
    """Whether it is a pair (limit, word) for blocks of so many pages."""
    if not isinstance(value, tuple) or len(value) != 2:
        return False
    limit, word = value
    # Only a string is compared with the words: other values may compare in any way.
    return is_within(limit, 0, pages) and isinstance(word, str) and word in WORDS


def check_rows(rows, pages):
    """Raises InvalidRows if these are no rows of a drive with so many pages."""
    if not isinstance(rows, tuple) or not rows:
        raise InvalidRows(None)
    for index, row in enumerate(rows):
        if index == MOST_ROWS or not is_row(row, pages):
            raise InvalidRows(index)
    last = len(rows) - 1
    if rows[last][0] != pages:
        raise InvalidRows(last)


def pick(rows, closed):
    """The index of the closed block that is picked, closed being their living pages."""
    # The limit of the last row is the number of pages, so that some row finds a place.
    for limit, word in rows:
        places = [place for place, living in enumerate(closed) if living <= limit]
        if places:
            return choose(word, closed, places)


def choose(word, closed, places):
    """The one of these places that a word means; min and max take the first of several."""
    if word == "oldest":
        return places[0]
    if word == "youngest":
        return places[-1]
    if word == "least":
        return min(places, key=lambda place: closed[place])
    return max(places, key=lambda place: closed[place])
