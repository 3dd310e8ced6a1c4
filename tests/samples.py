"""Parts of drives, and prices, for tests that walk through all stands; the same ones each time."""

import random

from tests.helper import WORDS, all_names, all_sizes, stands_counted

PRICES = ((1, 0), (0, 1), (1, 1), (2, 3), (9, 0), (0, 9), (9, 9), (1, 9), (9, 1))


def some_rows(chance, pages):
    """One to four rows; rules by which writes stick less often come more often."""
    words = WORDS + ("oldest", "least", "least")
    before = [(chance.randint(0, pages), chance.choice(words)) for at in range(chance.choice((0, 0, 1, 1, 2, 3)))]
    return tuple(before) + ((pages, chance.choice(words)),)


def some_parts(seed, many, most_stands):
    """Parts of so many drives with at most so many stands."""
    chance = random.Random(seed)
    found = []
    while len(found) < many:
        blocks, pages = chance.choice(all_sizes())
        names = chance.choice(all_names(blocks, pages))
        if stands_counted(blocks, pages, names) <= most_stands:
            found.append((blocks, pages, names, some_rows(chance, pages)))
    return found


def small_parts():
    """Parts of all small drives with rules of one row, and of some with more rows."""
    found = []
    for blocks, pages in ((3, 2), (3, 3), (4, 2)):
        for names in all_names(blocks, pages):
            for word in WORDS:
                found.append((blocks, pages, names, ((pages, word),)))
                found.append((blocks, pages, names, ((0, "oldest"), (pages, word))))
            found.append((blocks, pages, names, ((1, "youngest"), (pages - 1, "most"), (pages, "least"))))
            found.append((blocks, pages, names, ((0, "least"), (1, "oldest"), (pages - 1, "youngest"),
                                                 (pages, "oldest"))))
    return found


def some_pairs(seed, many, most_stands):
    """Pairs of parts with the same room for names, mostly of unlike sizes and rules."""
    chance = random.Random(seed)
    found = []
    while len(found) < many:
        one, other = chance.choice(all_sizes()), chance.choice(all_sizes())
        room = min(blocks * pages - pages for blocks, pages in (one, other))
        names = chance.randint(1, room)
        if all(stands_counted(blocks, pages, names) <= most_stands for blocks, pages in (one, other)):
            found.append(tuple((blocks, pages, names, some_rows(chance, pages)) for blocks, pages in (one, other)))
    return found
