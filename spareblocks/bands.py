"""What the rows of a drive can come to pick, told without a search.

When cleaning comes to be due, the living pages of the closed blocks can be any with less of them than there is room
for names: whatever the rule, with trims and without. None but these, as the name that is being written lives nowhere
yet. And each of these, already ahead of the first cleaning: one block after the other is filled by one name, again and
again, and then by names that stay. Not all blocks are full of those, so that this one name lives somewhere at the end;
being written once more it dies there, and the names that stay are left.
"""


def find_bands(drive):
    """For each row that ever picks: (floor, limit, word), there being no block with less than floor living pages."""
    bands = []
    floor = 0
    for limit, word in drive.rows:
        if limit >= floor:
            bands.append((floor, limit, word))
            floor = limit + 1
    return bands


def find_stuck(drive):
    """Living pages of closed blocks whose cleaning never ends; None if there are none.

    Only full blocks are picked then. So the row that picks takes all blocks, and as these go to the end, one by one,
    `oldest` and `least` would come to one that is not full.
    """
    floor, limit, word = find_bands(drive)[-1]
    stuck = (floor,) * (drive.blocks - 2) + (drive.pages,)
    if word in ("youngest", "most") and sum(stuck) < drive.names:
        return stuck
    return None


def is_first_always(drive):
    """Whether it is always the block that was closed first that is picked."""
    for floor, limit, word in find_bands(drive):
        lightest = floor * (drive.blocks - 1) + step_aside(drive, floor, limit, word)
        if lightest < drive.names:
            return False
    return True


def step_aside(drive, floor, limit, word):
    """How many pages more than floor in each block must live so that another block than the first one is picked."""
    if word == "youngest":
        return 0
    if word == "oldest":
        # The first one must be beyond the limit; if the limit takes all, no number is enough.
        return limit + 1 - floor if limit < drive.pages else drive.blocks * drive.pages
    # One page more makes the first one greater than the others, or another one greater than the first.
    return 1
