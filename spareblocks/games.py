"""Games of who writes and who picks: all worn stands that can come, and all due pairs.

The nodes of a game are pairs (stand, wears): wears has those of all blocks in their one row (reaching.py), so that only
cleaning changes them. A node that is a due pair has None in the place of the open block. Who writes moves on from worn
stands, who picks from due pairs. Nobody needs a write of a name that lives where a trim and a write behind it do the
same; so with trims these are left out.

Something can always be picked: when cleaning is due, the free block is the one that was erased last. If its wear is 0,
it was the only one of the least wear, and the others have by now less than the drift; else some closed block has 0.
"""

from spareblocks.errors import TooMany
from spareblocks.limits import MOST_PICKED
from spareblocks.reaching import START, count_living, let_die
from spareblocks.webs import TRIM, WRITE

NEW = "new"
OPEN = "open"


class Game:
    """Nodes, numbered from 0 on; 0 is the start."""

    def __init__(self, drive, trims, drift):
        self.drive = drive
        self.trims = trims
        self.drift = drift
        self.nodes = []
        self.numbers = {}
        # For each node: (move, number behind it), the move of who picks being the index of a closed block.
        self.links = []
        self.worn = []
        self.due = []
        # What is known of stands and of wears, apart from one another.
        self.moves = {}
        self.turns = {}


def number_node(game, node):
    """The number of a node, a new one if it has none."""
    number = game.numbers.get(node)
    if number is None:
        number = len(game.nodes)
        game.numbers[node] = number
        game.nodes.append(node)
        if node[0][1] is None:
            game.due.append(number)
        else:
            game.worn.append(number)
    return number


def find_game(drive, trims, drift):
    """The game of a drive, its rows left aside; raises TooMany if more worn stands can come than the limit."""
    game = Game(drive, trims, drift)
    number_node(game, (START, (0,) * drive.blocks))
    while len(game.links) < len(game.nodes) and len(game.worn) <= MOST_PICKED:
        stand, wears = game.nodes[len(game.links)]
        game.links.append(link_due(game, stand, wears) if stand[1] is None else link_worn(game, stand, wears))
    if len(game.worn) > MOST_PICKED:
        raise TooMany(MOST_PICKED)
    return game


def link_worn(game, stand, wears):
    """The links of a worn stand."""
    if stand not in game.moves:
        game.moves[stand] = find_moves(game, stand)
    return [(move, number_node(game, (after, wears))) for move, after in game.moves[stand]]


def link_due(game, stand, wears):
    """The links of a due pair: all that can be picked within the drift."""
    if stand not in game.moves:
        game.moves[stand] = [(place, clean_block(game.drive, stand[0], place)) for place in range(len(stand[0]))]
    links = []
    for place, after in game.moves[stand]:
        worn = find_turn(game, wears, place)
        if worn is not None:
            links.append((place, number_node(game, (after, worn))))
    return links


def find_moves(game, stand):
    """All that who writes needs in a stand: (move, stand behind it)."""
    grounds = [(OPEN if place == len(stand[0]) else place, ground) for place, ground in let_die(stand)]
    if game.trims:
        moves = [((TRIM, place), ground) for place, ground in grounds]
    else:
        moves = [((WRITE, place), begin_write(game.drive, ground)) for place, ground in grounds]
    if count_living(stand) < game.drive.names:
        moves.append((NEW, begin_write(game.drive, stand)))
    return moves


def begin_write(drive, stand):
    """What a write of a name that does not live leads to: a stand, or cleaning that is due."""
    closed, filling = stand
    if filling:
        return add_page(drive, closed, filling[0], filling[1])
    if drive.blocks - len(closed) > 1:
        return add_page(drive, closed, 0, 0)
    return closed, None


def add_page(drive, closed, written, living):
    """The stand behind a write into the open block."""
    if written + 1 == drive.pages:
        return closed + (living + 1,), ()
    return closed, (written + 1, living + 1)


def clean_block(drive, closed, place):
    """What a write leads to if this place is picked: a stand, or cleaning that is due once more."""
    living = closed[place]
    rest = closed[:place] + closed[place + 1:]
    if living == drive.pages:
        return rest + (living,), None
    return add_page(drive, rest, living, living)


def find_turn(game, wears, place):
    """The wears behind a cleaning of this place; None if they are beyond the drift."""
    turn = (wears, place)
    if turn not in game.turns:
        game.turns[turn] = turn_wears(wears, place, game.drift)
    return game.turns[turn]


def turn_wears(wears, place, drift):
    """The wears of the row of blocks once this one is erased, and stands at its end; None if beyond the drift."""
    if drift is None:
        return wears
    raised = wears[place] + 1
    after = wears[:place] + wears[place + 1:] + (raised,)
    least = min(after)
    if raised - least > drift:
        return None
    return tuple([wear - least for wear in after])


def list_costs(drive, copies, erasures):
    """What it costs to clean a block, for each number of living pages."""
    return [copies * living + erasures for living in range(drive.pages + 1)]


def order_worn(game):
    """The worn stands, each behind those to which events lead without cleaning."""
    return sorted(game.worn, key=lambda number: progress(game.drive, game.nodes[number][0]))


def progress(drive, stand):
    """What is less behind a write, or is as great behind a trim, with less names that live."""
    closed, filling = stand
    written = len(closed) * drive.pages + (filling[0] if filling else 0)
    return -written, count_living(stand)


def tell_worn(node):
    """The worn stand, as it is told."""
    (closed, filling), wears = node
    pairs = tuple(zip(closed, wears))
    if not filling:
        return pairs, (), wears[len(closed):]
    return pairs, (filling[0], filling[1], wears[len(closed)]), wears[len(closed) + 1:]


def tell_due(node):
    """The due pair, as it is told."""
    (closed, filling), wears = node
    return tuple(zip(closed, wears)), wears[-1]
