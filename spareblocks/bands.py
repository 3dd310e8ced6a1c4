"""What the rows of a drive can come to pick, told without a search.

When cleaning comes to be due, the living pages of the closed blocks can be any with less of them than there is room
for names: whatever the rule, with trims and without. None but these, as the name that is being written lives nowhere
yet. And each of these, already ahead of the first cleaning: one block after the other is filled by one name, again and
again, and then by names that stay. Not all blocks are full of those, so that this one name lives somewhere at the end;
being written once more it dies there, and the names that stay are left.
"""


def find_taker(drive):
    """The pair (floor, word) of the row that takes all blocks, floor being what lives in each when it comes to it."""
    floor = 0
    for limit, word in drive.rows:
        if limit == drive.pages:
            return floor, word
        floor = max(floor, limit + 1)


def find_stuck(drive):
    """Living pages of closed blocks whose cleaning never ends; None if there are none.

    Only full blocks are picked then. So the row that picks takes all blocks, and as these go to the end, one by one,
    `oldest` and `least` would come to one that is not full.
    """
    floor, word = find_taker(drive)
    stuck = (floor,) * (drive.blocks - 2) + (drive.pages,)
    if word in ("youngest", "most") and sum(stuck) < drive.names:
        return stuck
    return None


def is_first_always(drive):
    """Whether it is always the block that was closed first that is picked; the first row alone tells it.

    If all blocks are empty, `youngest` picks the last one. With one living page in the first block, or in another one,
    `least` and `most` pick another one. If more pages can live than the limit tells, `oldest` leaves out a first block
    with so many for an empty one; else no block is ever left to another row.
    """
    limit, word = drive.rows[0]
    if word == "oldest":
        return limit == drive.pages or drive.names <= limit + 1
    return word != "youngest" and drive.names == 1
