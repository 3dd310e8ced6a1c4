"""Drives: blocks, pages, room for names, and a rule."""

from spareblocks.counting import count_stands
from spareblocks.errors import BadValue, InvalidBlocks, InvalidNames, InvalidPages, InvalidText, TooMany
from spareblocks.kinds import is_within
from spareblocks.limits import LEAST_BLOCKS, LEAST_PAGES, MOST_BLOCKS, MOST_PAGES, MOST_STANDS
from spareblocks.rules import check_rows
from spareblocks.texts import parts_of, text_of


def check_sizes(blocks, pages, names):
    """Raises the error of the first one of these that no drive has."""
    if not is_within(blocks, LEAST_BLOCKS, MOST_BLOCKS):
        raise InvalidBlocks(blocks)
    if not is_within(pages, LEAST_PAGES, MOST_PAGES):
        raise InvalidPages(pages)
    if not is_within(names, 1, pages * (blocks - 1)):
        raise InvalidNames(names)


class Drive:
    """A drive, which never changes."""

    def __init__(self, blocks, pages, names, rows):
        check_sizes(blocks, pages, names)
        check_rows(rows, pages)
        self.kept_blocks = blocks
        self.kept_pages = pages
        self.kept_names = names
        self.kept_rows = rows
        self.kept_text = text_of(blocks, pages, names, rows)
        if count_stands(blocks, pages, names) > MOST_STANDS:
            raise TooMany(MOST_STANDS)

    @classmethod
    def simple(cls, blocks, pages, names, word="least"):
        """The drive with one row for all blocks."""
        return cls(blocks, pages, names, ((pages, word),))

    @classmethod
    def read(cls, text):
        """The drive with this text."""
        parts = parts_of(text) if isinstance(text, str) else None
        if parts is None:
            raise InvalidText(text)
        blocks, pages, names, rows = parts
        try:
            return cls(blocks, pages, names, rows)
        except (BadValue, TooMany):
            raise InvalidText(text) from None

    @property
    def blocks(self):
        """How many blocks it has."""
        return self.kept_blocks

    @property
    def pages(self):
        """How many pages each block has."""
        return self.kept_pages

    @property
    def names(self):
        """For how many names there is room at once."""
        return self.kept_names

    @property
    def rows(self):
        """The rows (limit, word) of its rule."""
        return self.kept_rows

    def with_rows(self, rows):
        """The drive with other rows."""
        return Drive(self.kept_blocks, self.kept_pages, self.kept_names, rows)

    def with_blocks(self, blocks):
        """The drive with another number of blocks."""
        return Drive(blocks, self.kept_pages, self.kept_names, self.kept_rows)

    def __eq__(self, other):
        return isinstance(other, Drive) and self.kept_text == other.kept_text

    def __str__(self):
        return str(self.kept_text)

    def __len__(self):
        return len(self.kept_rows)
