"""Whether certificates about the best rate are right: picks that hold it, and moves that force it."""

from spareblocks.forms import has_length, is_due, is_worn
from spareblocks.games import NEW, OPEN, begin_write, clean_block, tell_due, tell_worn, turn_wears
from spareblocks.kinds import is_integer, is_within
from spareblocks.proofs import is_owed, read_pairs
from spareblocks.reaching import START, count_living, let_die
from spareblocks.terms import weigh
from spareblocks.webs import TRIM, WRITE


def first_node(drive):
    """The start, as games.py has its nodes."""
    return START, (0,) * drive.blocks


def shows_holds(terms, certificate):
    """Whether the picks hold the drift, and the worths show that they hold the rate."""
    if not has_length(certificate, 2):
        return False
    sides = terms.drive.blocks - 1
    picks = read_pairs(certificate[0], lambda due: is_due(due, sides), lambda index: is_within(index, 0, sides - 1))
    worths = read_pairs(certificate[1], is_worn, is_owed)
    if picks is None or worths is None:
        return False
    start = first_node(terms.drive)
    met = {start: True}
    waiting = [start]
    while waiting:
        node = waiting.pop()
        ends = follow_events(terms, picks, node)
        if ends is None or tell_worn(node) not in worths:
            return False
        for after, weight in ends:
            if weight + worths.get(tell_worn(after), 0) > worths[tell_worn(node)]:
                return False
            if after not in met:
                met[after] = True
                waiting.append(after)
    return len(met) == len(worths)


def follow_events(terms, picks, node):
    """For each event: (node behind it, weight); None if the picks do not tell, do not hold the drift or never end."""
    stand, wears = node
    grounds = [ground for place, ground in let_die(stand)]
    ends = [((ground, wears), 0) for ground in grounds] if terms.trims else []
    if count_living(stand) < terms.drive.names:
        grounds.append(stand)
    for ground in grounds:
        told = follow_picks(terms, picks, (begin_write(terms.drive, ground), wears))
        if told is None:
            return None
        after, copied, erased = told
        ends.append((after, weigh(terms, copied, erased, 1)))
    return ends


def follow_picks(terms, picks, node):
    """What it is picked to, as long as cleaning is due: (node, copied, erased); None as for follow_events."""
    seen = set()
    copied = 0
    while node[0][1] is None:
        (closed, filling), wears = node
        place = picks.get(tell_due(node))
        if node in seen or place is None:
            return None
        seen.add(node)
        turned = turn_wears(wears, place, terms.drift)
        if turned is None:
            return None
        copied += closed[place]
        node = (clean_block(terms.drive, closed, place), turned)
    return node, copied, len(seen)


def shows_forces(terms, certificate):
    """Whether the worths show that the moves force the rate, whatever is picked within the drift."""
    told = read_moves(certificate)
    if told is None:
        return False
    start = first_node(terms.drive)
    met = {start: True}
    waiting = [start]
    while waiting:
        node = waiting.pop()
        move, worth = told.get(tell_worn(node), (None, 0))
        begun = begin_move(terms, node[0], move)
        if begun is None:
            return False
        writes = 0 if move[0] == TRIM else 1
        for after, copied, erased in find_ends(terms, (begun, node[1])):
            # Where it is not among the told ones, this is found out when its turn comes.
            behind = told.get(tell_worn(after), (None, 0))[1]
            if weigh(terms, copied, erased, writes) + behind < worth:
                return False
            if after not in met:
                met[after] = True
                waiting.append(after)
    return len(met) == len(told)


def read_moves(certificate):
    """The dict of moves and worths of worn stands; None if the certificate does not have this form."""
    if not isinstance(certificate, tuple) or not all([has_length(triple, 3) for triple in certificate]):
        return None
    return read_pairs(tuple([(stand, (move, worth)) for stand, move, worth in certificate]), is_worn, is_forced)


def is_forced(pair):
    """Whether the worth beside a move is an integer of at most 0."""
    return is_integer(pair[1]) and pair[1] <= 0


def begin_move(terms, stand, move):
    """What a move leads to: a stand, or cleaning that is due; None if it cannot be made there."""
    if isinstance(move, str):
        has_room = count_living(stand) < terms.drive.names
        return begin_write(terms.drive, stand) if move == NEW and has_room else None
    ground = find_ground(stand, move[1]) if has_length(move, 2) and isinstance(move[0], str) else None
    if ground is None:
        return None
    if move[0] == WRITE:
        return begin_write(terms.drive, ground)
    return ground if move[0] == TRIM and terms.trims else None


def find_ground(stand, place):
    """The stand in which a page of this place has died; None if the place is none, or no page lives there."""
    last = len(stand[0])
    if isinstance(place, str) and place == OPEN:
        return dict(let_die(stand)).get(last)
    return dict(let_die(stand)).get(place) if is_within(place, 0, last - 1) else None


def find_ends(terms, node):
    """For all picks within the drift, as long as cleaning is due: (node, copied, erased).

    Only full blocks let cleaning go on. So what is due after the same number of picks has cost the same, and a due pair
    that comes again later has only cost more.
    """
    if node[0][1] is not None:
        return [(node, 0, 0)]
    ends = []
    met = {node: True}
    layer = [node]
    copied = 0
    erased = 1
    while layer:
        coming = []
        for (closed, filling), wears in layer:
            for place, living in enumerate(closed):
                turned = turn_wears(wears, place, terms.drift)
                after = (clean_block(terms.drive, closed, place), turned)
                if turned is not None and after[0][1] is not None:
                    ends.append((after, copied + living, erased))
                elif turned is not None and after not in met:
                    met[after] = True
                    coming.append(after)
        layer = coming
        copied += terms.drive.pages
        erased += 1
    return ends
