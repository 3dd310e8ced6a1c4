"""Books of drives with claims that hold after each change."""

from spareblocks.checks import check_drive
from spareblocks.errors import InUse, InvalidClaim, InvalidIndex, InvalidName, NothingToUndo, UnknownName
from spareblocks.kinds import is_name, is_within
from spareblocks.pledges import demand, is_claim, names_in


class Moment:
    """What a book is at some time; it never changes, and knows the moment before the last change."""

    def __init__(self, drives, row, before):
        self.drives = drives
        self.row = row
        self.before = before
        self.age = 0 if before is None else before.age + 1


class Entry:
    """The moment at which a trial began, and the entry of the same trial around it."""

    def __init__(self, moment, around):
        self.moment = moment
        self.around = around


class Trial:
    """What stands in a `with` statement: an exception brings the book back to the moment at which it began."""

    def __init__(self, book):
        self.book = book
        self.entry = None

    def __enter__(self):
        self.entry = Entry(self.book.moment, self.entry)
        return self.book

    def __exit__(self, kind, value, trace):
        if kind is not None:
            self.book.moment = self.entry.moment
        self.entry = self.entry.around


class Book:
    """Drives under names, and a row of claims."""

    def __init__(self):
        self.moment = Moment({}, (), None)

    def __setitem__(self, at, worth):
        if not is_name(at):
            raise InvalidName(at)
        check_drive(worth)
        drives = {**self.moment.drives, at: worth}
        # The other claims held before, and ask of nothing that is different now.
        for index, claim in enumerate(self.moment.row):
            if at in names_in(claim):
                demand(drives, claim, index)
        self.moment = Moment(drives, self.moment.row, self.moment)

    def __getitem__(self, at):
        check_known(self.moment, at)
        return self.moment.drives[at]

    def __contains__(self, x):
        return is_known(self.moment, x)

    def __iter__(self):
        raise TypeError("a book is not iterated over")

    def __len__(self):
        return len(self.moment.drives)

    def __bool__(self):
        return True

    @property
    def titles(self):
        """The names of the drives, ascending."""
        return tuple(sorted(self.moment.drives))

    @property
    def claims(self):
        """The claims."""
        return self.moment.row

    @property
    def changes(self):
        """How many changes can be taken back."""
        return self.moment.age

    def remove(self, name):
        """Takes a drive away."""
        check_known(self.moment, name)
        for index, claim in enumerate(self.moment.row):
            if name in names_in(claim):
                raise InUse(index)
        drives = {title: drive for title, drive in self.moment.drives.items() if title != name}
        self.moment = Moment(drives, self.moment.row, self.moment)

    def claim(self, claim):
        """Makes a claim more."""
        if not is_claim(claim):
            raise InvalidClaim(claim)
        for name in names_in(claim):
            check_known(self.moment, name)
        demand(self.moment.drives, claim, len(self.moment.row))
        self.moment = Moment(self.moment.drives, self.moment.row + (claim,), self.moment)

    def lift(self, index):
        """Takes a claim away."""
        row = self.moment.row
        if not is_within(index, 0, len(row) - 1):
            raise InvalidIndex(index)
        self.moment = Moment(self.moment.drives, row[:index] + row[index + 1:], self.moment)

    def undo(self):
        """Takes back the last change that has not been taken back."""
        if self.moment.before is None:
            raise NothingToUndo()
        self.moment = self.moment.before

    def trial(self):
        """What stands in a `with` statement so that all is taken back if its rows end with an exception."""
        return Trial(self)

    def tried(self, action):
        """Calls the action with the book within a trial."""
        with self.trial() as book:
            return action(book)


def is_known(moment, name):
    """Whether there is a drive under this name, whatever it is."""
    return isinstance(name, str) and name in moment.drives


def check_known(moment, name):
    """Raises UnknownName if there is no drive under this name."""
    if not is_known(moment, name):
        raise UnknownName(name)
