"""The errors of the package, each under one base class.

Each class keeps its attributes by itself: an error belongs to no class of the
package but its own and its base, so there is no class between to share them.
"""


class BadValue(ValueError):
    """A value that is passed is not valid."""


class InvalidBlocks(BadValue):
    """A number of blocks that no drive has."""

    def __init__(self, given):
        self.given = given


class InvalidPages(BadValue):
    """A number of pages that no block has."""

    def __init__(self, given):
        self.given = given


class InvalidNames(BadValue):
    """A room for names that a drive of this size does not have."""

    def __init__(self, given):
        self.given = given


class InvalidPrice(BadValue):
    """A price that is none, or the second one of two that are both 0."""

    def __init__(self, given):
        self.given = given


class InvalidNumber(BadValue):
    """A number that is not within its bounds."""

    def __init__(self, given):
        self.given = given


class InvalidFlag(BadValue):
    """A value that is neither True nor False."""

    def __init__(self, given):
        self.given = given


class InvalidDrift(BadValue):
    """A drift that cannot be wished for."""

    def __init__(self, given):
        self.given = given


class InvalidText(BadValue):
    """A value that is no text of a drive."""

    def __init__(self, given):
        self.given = given


class InvalidName(BadValue):
    """A value that is no name."""

    def __init__(self, given):
        self.given = given


class InvalidIndex(BadValue):
    """A value that is no index of what it should point at."""

    def __init__(self, given):
        self.given = given


class InvalidClaim(BadValue):
    """A value that does not have the form of a claim."""

    def __init__(self, given):
        self.given = given


class NotADrive(BadValue):
    """A value that is no drive."""

    def __init__(self, given):
        self.given = given


class InvalidRows(BadValue):
    """A value that is no rule; the index is that of the first wrong row, or None."""

    def __init__(self, index):
        self.index = index


class InvalidLoad(BadValue):
    """A value that is no load; the index is that of the first wrong event, or None."""

    def __init__(self, index):
        self.index = index


class BadName(LookupError):
    """A name of a drive in a book cannot be used so."""


class UnknownName(BadName):
    """A name that the book does not have."""

    def __init__(self, given):
        self.given = given


class InUse(BadName):
    """A name that a claim needs; the index is that of the claim."""

    def __init__(self, index):
        self.index = index


class NoAnswer(ArithmeticError):
    """What is asked has no answer."""


class OtherNames(NoAnswer):
    """Two drives have unlike room for names."""


class Sticks(NoAnswer):
    """A write of a drive can stick."""


class TooMany(NoAnswer):
    """There are more stands than the limit."""

    def __init__(self, limit):
        self.limit = limit


class NothingToUndo(NoAnswer):
    """A book has no change that can be taken back."""


class NotAsked(NoAnswer):
    """A claim cannot be asked; the index is that of the claim."""

    def __init__(self, index):
        self.index = index


class Broken(NoAnswer):
    """A claim does not hold; the index is that of the claim, shown is what tells so."""

    def __init__(self, index, shown):
        self.index = index
        self.shown = shown
