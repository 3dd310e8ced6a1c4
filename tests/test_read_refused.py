import re
import unittest

from spareblocks.drives import Drive
from spareblocks.errors import InvalidText
from tests.helper import integers_of_many_sizes, stands_counted, values_of_many_kinds

WORD = "(?:oldest|youngest|least|most)"
FORM = re.compile("drive ([3-6]) blocks ([2-5]) pages ([1-9][0-9]?) names"
                  "((?:\nat most [0-9]: " + WORD + "){0,3})\nany: " + WORD)

TEXTS = (
    "drive 3 blocks 2 pages 1 names\nany: least",
    "drive 4 blocks 3 pages 6 names\nat most 1: oldest\nany: least",
    "drive 6 blocks 2 pages 10 names\nat most 0: youngest\nat most 1: most\nat most 2: least\nany: oldest",
)


def is_text(text):
    """Whether a drive has this text."""
    found = FORM.fullmatch(text)
    if found is None:
        return False
    blocks, pages, names = [int(number) for number in found.groups()[:3]]
    limits = [int(number) for number in re.findall("[0-9]", found.group(4))]
    fits = names <= pages * (blocks - 1) and all(limit <= pages for limit in limits)
    return fits and stands_counted(blocks, pages, names) <= 2000


class ReadTest(unittest.TestCase):
    def refused(self, value):
        for told, named in (((value,), {}), ((), {"text": value})):
            with self.assertRaises(InvalidText) as caught:
                Drive.read(*told, **named)
            self.assertIs(InvalidText, type(caught.exception))
            self.assertIs(value, caught.exception.given)

    def check(self, text):
        """The text is refused, or it is the text of the drive that is returned."""
        if is_text(text):
            self.assertEqual(text, str(Drive.read(text)))
            return True
        self.refused(text)
        return False

    def test_no_strings(self):
        values = values_of_many_kinds() + integers_of_many_sizes()
        for value in values + [Drive.simple(3, 2, 1), TEXTS[0].encode(), [TEXTS[0]], (TEXTS[0],), TEXTS[0].split("\n")]:
            self.refused(value)

    def test_one_sign_more_less_or_other(self):
        accepted = 0
        for text in TEXTS:
            self.assertTrue(self.check(text))
            signs = "\n -0123456789:Nadelmty~"
            for at in range(len(text) + 1):
                changed = [text[:at] + text[at + 1:]]
                changed += [text[:at] + sign + text[at:] for sign in signs]
                changed += [text[:at] + sign + text[at + 1:] for sign in signs]
                for other in changed:
                    accepted += other != text and self.check(other)
        self.assertGreater(accepted, 20)

    def test_two_signs_changed_places(self):
        for text in TEXTS:
            for at in range(len(text) - 1):
                self.check(text[:at] + text[at + 1] + text[at] + text[at + 2:])

    def test_one_line_more_less_or_elsewhere(self):
        extra = ("", " ", "any: least", "at most 0: least", "at most 9: most", "drive 3 blocks 2 pages 1 names", "least")
        for text in TEXTS:
            lines = text.split("\n")
            for at in range(len(lines) + 1):
                self.check("\n".join(lines[:at] + lines[at + 1:]))
                self.check("\n".join(lines[:at] + lines[at:at + 1] + lines[at:]))
                self.check("\n".join(lines[at:] + lines[:at]))
                for line in extra:
                    self.check("\n".join(lines[:at] + [line] + lines[at:]))
                    self.check("\n".join(lines[:at] + [line] + lines[at + 1:]))

    def test_one_word_other_more_or_less(self):
        words = ("drive", "drives", "Drive", "block", "blocks", "page", "pages", "name", "names", "at", "most", "least",
                 "least:", "any", "any:", "1:", "03", "3", "-3", "+3", "3.0", "1_0", "10", "11", "100", "None", "")
        for text in TEXTS:
            parts = re.split("([ \n])", text)
            for at in range(0, len(parts), 2):
                self.check("".join(parts[:at] + parts[at + 2:]))
                for word in words:
                    self.check("".join(parts[:at] + [word] + parts[at + 1:]))
                    self.check("".join(parts[:at] + [word, " "] + parts[at:]))

    def test_a_leading_zero(self):
        for text in TEXTS:
            for found in re.finditer("[0-9]+", text):
                self.refused(text[:found.start()] + "0" + text[found.start():])

    def test_a_blank_or_a_newline_more(self):
        for text in TEXTS:
            for at in range(len(text) + 1):
                for more in (" ", "\n", "  ", "\n\n"):
                    self.refused(text[:at] + more + text[at:])
            self.refused(text.replace("\n", "\n\n"))
            self.refused(text.replace(" ", "  "))
            self.refused(text.replace("\n", " "))

    def test_any_and_at_most_in_the_wrong_rows(self):
        head = "drive 3 blocks 2 pages 1 names\n"
        for rows in ("at most 2: least", "any: least\nany: least", "any: least\nat most 2: least", "2: least",
                     "at most any: least", "at most 1: least\n2: least", "at most 1: least\nat most 2: least",
                     "any least", "any:least", "any : least", "any: ", "any", "any: any", ": least", "least"):
            self.refused(head + rows)

    def test_numbers_just_beyond_their_bounds(self):
        self.refused("drive 2 blocks 2 pages 1 names\nany: least")
        self.refused("drive 7 blocks 2 pages 1 names\nany: least")
        self.refused("drive 3 blocks 1 pages 1 names\nany: least")
        self.refused("drive 3 blocks 6 pages 1 names\nany: least")
        self.refused("drive 3 blocks 2 pages 0 names\nany: least")
        self.refused("drive 3 blocks 2 pages 5 names\nany: least")
        self.refused("drive 3 blocks 2 pages 1 name\nany: least")
        self.refused("drive 3 blocks 2 pages 1 names\nat most 3: least\nany: least")
        self.refused("drive 3 blocks 2 pages 1 names" + "\nat most 1: least" * 4 + "\nany: least")
        self.refused("drive 3 blocks 2 pages 1 names\nat most " + "1" * 3900 + ": least\nany: least")
        self.refused("1" * 4000)

    def test_too_many_stands(self):
        self.assertEqual(10, Drive.read("drive 5 blocks 4 pages 10 names\nany: least").names)
        self.refused("drive 5 blocks 4 pages 11 names\nany: least")
        self.refused("drive 6 blocks 5 pages 25 names\nat most 1: oldest\nany: least")

    def test_empty_and_short_texts(self):
        for text in ("", "\n", " ", "drive", "any: least", "drive 3 blocks 2 pages 1 names",
                     "drive 3 blocks 2 pages 1 names\n"):
            self.refused(text)


if __name__ == "__main__":
    unittest.main()
