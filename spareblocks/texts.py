"""Texts of drives."""

WORDS_OF_HEAD = 7
MOST_DIGITS = 2


def text_of(blocks, pages, names, rows):
    """The text of the drive with these parts."""
    lines = [f"drive {blocks} blocks {pages} pages {names} names"]
    for limit, word in rows[:-1]:
        lines.append(f"at most {limit}: {word}")
    lines.append(f"any: {rows[-1][1]}")
    return "\n".join(lines)


def number_of(word):
    """The number that a word tells, None if it tells none."""
    # A drive has no number with more digits, and int refuses words with very many.
    if word.isascii() and word.isdigit() and len(word) <= MOST_DIGITS:
        return int(word)
    return None


def row_of(line, pages):
    """The row that a line may tell."""
    start, colon, word = line.partition(": ")
    limit = pages if start == "any" else number_of(start.removeprefix("at most "))
    return limit, word


def parts_of(text):
    """The parts (blocks, pages, names, rows) whose text this is, None if there are none.

    Whether a drive can have these parts is left to Drive.
    """
    head, *lines = text.split("\n")
    words = head.split(" ")
    if len(words) != WORDS_OF_HEAD or not lines:
        return None
    blocks, pages, names = [number_of(word) for word in words[1::2]]
    rows = tuple([row_of(line, pages) for line in lines])
    # Only the very text of these parts is theirs: this finds all that is written otherwise.
    if text_of(blocks, pages, names, rows) != text:
        return None
    return blocks, pages, names, rows
