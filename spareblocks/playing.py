"""Given loads, played on a drive."""

from spareblocks.checks import check_drive, check_prices, check_trims
from spareblocks.plays import play_load, stand_of
from spareblocks.reaching import find_stands


def steps(drive, load):
    """A generator of (block, cleaned, copied) for each event."""
    check_drive(drive)
    told = play_load(drive, load).told
    yield from told


def blocks_of(drive, load):
    """For each block how it is, and the names that live in it, in the order of its pages."""
    check_drive(drive)
    play = play_load(drive, load)
    told = []
    for block, content in enumerate(play.content):
        state = "free" if block in play.free else "closed" if block in play.closed else "open"
        told.append((state, tuple([name for name in content if name is not None])))
    return tuple(told)


def erased(drive, load):
    """How often each block was erased."""
    check_drive(drive)
    counts = [0] * drive.blocks
    for block, cleaned, copied in play_load(drive, load).told:
        for number in cleaned:
            counts[number] += 1
    return tuple(counts)


def price(drive, load, *, copies=1, erasures=0):
    """What all copies and erasures of the load cost."""
    check_drive(drive)
    told = play_load(drive, load).told
    check_prices(copies, erasures)
    return sum([copies * copied + erasures * len(cleaned) for block, cleaned, copied in told])


def stand(drive, load):
    """The stand behind the load."""
    check_drive(drive)
    return stand_of(play_load(drive, load))


def stands(drive, *, trims=True):
    """All stands that can be reached, ascending."""
    check_drive(drive)
    check_trims(trims)
    return tuple(sorted(find_stands(drive, trims)))
