"""Whether certificates about given drives, with their rules, are right."""

from spareblocks.errors import InvalidLoad
from spareblocks.forms import has_length, is_from, is_stand
from spareblocks.plays import play_load, stand_of
from spareblocks.reaching import START, count_living, let_die, write_page
from spareblocks.terms import weigh
from spareblocks.webs import TRIM


def read_pairs(value, is_key, is_worth):
    """The dict of a tuple of pairs, each key once; None if it is something else."""
    if not isinstance(value, tuple):
        return None
    found = {}
    for pair in value:
        if not has_length(pair, 2) or not is_key(pair[0]) or not is_worth(pair[1]) or pair[0] in found:
            return None
        found[pair[0]] = pair[1]
    return found


def is_owed(value):
    """Whether it is an integer from 0 on."""
    return is_from(value, 0)


def shows_at_most(terms, debt, certificate):
    """Whether the worths show that no load costs more than the rate, but for the debt, and that no write sticks."""
    worths = read_pairs(certificate, is_stand, is_owed)
    if worths is None or worths.get(START, debt + 1) > debt:
        return False
    met = {START: True}
    waiting = [START]
    while waiting:
        stand = waiting.pop()
        events = weigh_events(terms, stand)
        if events is None:
            return False
        for after, weight in events:
            if after not in worths or weight + worths[after] > worths[stand]:
                return False
            if after not in met:
                met[after] = True
                waiting.append(after)
    return len(met) == len(worths)


def weigh_events(terms, stand):
    """For each event at a stand: (stand behind it, weight); None if a write sticks."""
    grounds = [ground for place, ground in let_die(stand)]
    events = [(ground, 0) for ground in grounds] if terms.trims else []
    if count_living(stand) < terms.drive.names:
        grounds.append(stand)
    for ground in grounds:
        told = write_page(terms.drive, ground)
        if told is None:
            return None
        after, copied, picks = told
        events.append((after, weigh(terms, copied, len(picks), 1)))
    return events


def find_play(drive, load):
    """The play behind a load, None if it is none for this drive."""
    try:
        return play_load(drive, load)
    except InvalidLoad:
        return None


def has_trim(load):
    """Whether there is a trim among these events."""
    return any([word == TRIM for word, name in load])


def shows_at_least(terms, certificate):
    """Whether the ring can be gone round, and costs at least the rate."""
    if not has_length(certificate, 2) or not isinstance(certificate[0], tuple) or not isinstance(certificate[1], tuple):
        return False
    way, ring = certificate
    play = find_play(terms.drive, way + ring)
    if play is None or has_trim(way + ring) and not terms.trims:
        return False
    writes = [step for step in play.told[len(way):] if step[0] is not None]
    if not writes or stand_of(find_play(terms.drive, way)) != stand_of(play):
        return False
    return sum([weigh(terms, copied, len(cleaned), 1) for block, cleaned, copied in writes]) >= 0


def shows_more(one, other, copies, erasures, more, certificate):
    """Whether the load costs the one more than so much more than the other."""
    play = find_play(one, certificate)
    other_play = find_play(other, certificate)
    if play is None or other_play is None:
        return False
    return price_play(play, copies, erasures) - price_play(other_play, copies, erasures) > more


def price_play(play, copies, erasures):
    """The price of what was played."""
    return sum([copies * copied + erasures * len(cleaned) for block, cleaned, copied in play.told])
