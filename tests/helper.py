"""What several tests need: wrong values, and a drive that is played page by page.

Nothing here uses the package, so that the tests compare it with something else.
"""

WORDS = ("oldest", "youngest", "least", "most")


class Hostile:
    """A value that must not be compared, counted, indexed or iterated."""

    def refuse(self, *told):
        raise AssertionError("a value of another kind was used")

    __eq__ = __ne__ = __lt__ = __le__ = __gt__ = __ge__ = refuse
    __bool__ = __len__ = __iter__ = __contains__ = __getitem__ = __int__ = __index__ = refuse
    __hash__ = None


class EqualToAll:
    """A value that says that it equals every other one."""

    def __eq__(self, other):
        return True

    def __ne__(self, other):
        return False

    __hash__ = None


def values_of_many_kinds():
    """Values none of which is an integer, a drive's text or a row."""
    return [
        True, False, None, "", "4", "least", "drive", b"", b"4", (), (4,), (3, "least", 1), [], [4], [(2, "least")],
        {}, {4: 4}, set(), {4}, frozenset(), range(4), iter(()), len, int, object, object(), Hostile(), EqualToAll(),
        ValueError(4), ((((((((("a",),),),),),),),),), 4j, ...,
    ]


def integers_of_many_sizes():
    return [-(10 ** 39), -100, -1, 0, 1, 6, 7, 26, 2001, 10 ** 39]


class Played:
    """A drive with numbered blocks, each a list of pages, a page being a name or None once it is dead."""

    def __init__(self, blocks, pages, names, rows):
        self.shape = (blocks, pages, names, rows)
        self.content = [[] for number in range(blocks)]
        self.free = list(range(blocks))
        self.closed = []
        self.current = None
        self.copied = 0
        self.erased = []

    def copy(self):
        """A drive that goes on from here, with no copies and erasures yet."""
        twin = Played(*self.shape)
        twin.content = [list(pages) for pages in self.content]
        twin.free, twin.closed, twin.current = list(self.free), list(self.closed), self.current
        return twin

    def living(self, number):
        return len([page for page in self.content[number] if page is not None])

    def living_names(self):
        return [page for pages in self.content for page in pages if page is not None]

    def stand(self):
        closed = tuple(self.living(number) for number in self.closed)
        if self.current is None:
            return closed, ()
        return closed, (len(self.content[self.current]), self.living(self.current))

    def trim(self, name):
        for pages in self.content:
            if name in pages:
                pages[pages.index(name)] = None

    def put(self, name):
        self.content[self.current].append(name)
        if len(self.content[self.current]) == self.shape[1]:
            self.closed.append(self.current)
            self.current = None

    def write(self, name):
        """Whether the write ends; if it sticks the drive is of no use any more."""
        self.trim(name)
        before = []
        while self.current is None:
            if len(self.free) > 1:
                self.current = self.free.pop(0)
                continue
            if self.stand() in before:
                return False
            before.append(self.stand())
            self.clean()
        self.put(name)
        return True

    def clean(self):
        picked = self.picked()
        self.current = self.free.pop(0)
        for page in list(self.content[picked]):
            if page is not None:
                self.put(page)
                self.copied += 1
        self.closed.remove(picked)
        self.content[picked] = []
        self.free.append(picked)
        self.erased.append(picked)

    def picked(self):
        for limit, word in self.shape[3]:
            some = [number for number in self.closed if self.living(number) <= limit]
            if not some:
                continue
            if word == "oldest":
                return some[0]
            if word == "youngest":
                return some[len(some) - 1]
            counts = [self.living(number) for number in some]
            wished = min(counts) if word == "least" else max(counts)
            return some[counts.index(wished)]

    def row(self):
        """The numbers of all blocks: the closed ones in their order, the open one, the free ones in their row."""
        return self.closed + ([] if self.current is None else [self.current]) + self.free

    def place(self, name):
        """Where the block in which a name lives stands in this row."""
        return self.row().index([number for number, pages in enumerate(self.content) if name in pages][0])

    def do(self, word, name):
        """Does an event; whether it ends."""
        if word == "write":
            return self.write(name)
        self.trim(name)
        return True


def fresh_name(living):
    return [f"n{number}" for number in range(len(living) + 1) if f"n{number}" not in living][0]


def events_at(living, room, trims):
    """All events that are let if these names live."""
    events = [("write", name) for name in living]
    if len(living) < room:
        events.append(("write", fresh_name(living)))
    return events + [("trim", name) for name in living if trims]


def all_sizes():
    return [(blocks, pages) for blocks in range(3, 7) for pages in range(2, 6)]


def all_names(blocks, pages):
    return range(1, pages * (blocks - 1) + 1)


def stands_counted(blocks, pages, names):
    """How many stands can be reached, with trims, whatever the rule.

    Without a cleaning each stand is reached in which at most so many names live as there is room for, but for
    those where all of them live in other blocks than the last one: its last page, too, lived when it was written.
    """
    before = {0: 1}
    many = 1
    for used in range(blocks - 1):
        partly = [(written, living) for written in range(1, pages) for living in range(written + 1)]
        fully = [(pages, living) for living in range(pages + 1)]
        behind = {}
        for total in range(names):
            for written, living in partly + fully:
                if total + living <= names:
                    many += before.get(total, 0)
                    if written == pages:
                        behind[total + living] = behind.get(total + living, 0) + before.get(total, 0)
        before = behind
    return many


def text_told(blocks, pages, names, rows):
    """The text of a drive, as [6] shows it."""
    text = "drive " + str(blocks) + " blocks " + str(pages) + " pages " + str(names) + " names"
    for index in range(len(rows)):
        if index == len(rows) - 1:
            text += "\nany: " + rows[index][1]
        else:
            text += "\nat most " + str(rows[index][0]) + ": " + rows[index][1]
    return text
