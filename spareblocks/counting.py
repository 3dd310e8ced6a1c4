"""How many stands of a drive can be reached, with trims: counted, not searched.

Whatever the rule, and already without cleaning, these are the start and the stands in which at most so many names
live as there is room for, not all of them in blocks before the last one (the open block, or the one that was closed
last). None but these: the last block got the last write, and behind it the name of that write lived there; since then
pages can only have died. And each of these: let one block after the other be filled, first by names that are written
and trimmed at once, then by those that stay; there is room for one more name until the last page.
"""


def spread(before, pages):
    """In how many ways so many names live in one closed block more, before being this without it."""
    return [sum(before[max(0, total - pages):total + 1]) for total in range(len(before))]


def count_stands(blocks, pages, names):
    """How many stands can be reached, with trims."""
    # How a last block can be, if there is room for so many names in it: written pages, and living ones of these.
    lasts = [sum([min(written, room) + 1 for written in range(1, pages + 1)]) for room in range(names + 1)]
    before = [1] + [0] * (names - 1)
    many = 1
    for used in range(1, blocks):
        many += sum([ways * lasts[names - total] for total, ways in enumerate(before)])
        before = spread(before, pages)
    return many
