import unittest

from spareblocks.drives import Drive
from spareblocks.errors import InvalidBlocks, InvalidNames, InvalidPages, InvalidRows, TooMany
from tests.helper import WORDS, all_names, all_sizes, integers_of_many_sizes, stands_counted, values_of_many_kinds

ROWS = ((2, "least"),)


class Refusing(unittest.TestCase):
    def refused_given(self, error_class, given, call, *told, **named):
        with self.assertRaises(error_class) as caught:
            call(*told, **named)
        self.assertIs(error_class, type(caught.exception))
        self.assertIs(given, caught.exception.given)

    def refused_rows(self, index, call, *told, **named):
        with self.assertRaises(InvalidRows) as caught:
            call(*told, **named)
        self.assertIs(type(index), type(caught.exception.index))
        self.assertEqual(index, caught.exception.index)

    def refused_as_too_many(self, call, *told, **named):
        with self.assertRaises(TooMany) as caught:
            call(*told, **named)
        self.assertEqual(2000, caught.exception.limit)


class SizesTest(Refusing):
    def test_blocks(self):
        for blocks in values_of_many_kinds() + [-3, 0, 1, 2, 7, 8, 10 ** 39]:
            self.refused_given(InvalidBlocks, blocks, Drive, blocks, 2, 1, ROWS)
            self.refused_given(InvalidBlocks, blocks, Drive, rows=ROWS, names=1, pages=2, blocks=blocks)
            self.refused_given(InvalidBlocks, blocks, Drive.simple, blocks, 2, 1)

    def test_pages(self):
        for pages in values_of_many_kinds() + [-2, 0, 1, 6, 7, 10 ** 39]:
            self.refused_given(InvalidPages, pages, Drive, 3, pages, 1, ROWS)
            self.refused_given(InvalidPages, pages, Drive, rows=ROWS, names=1, pages=pages, blocks=3)
            self.refused_given(InvalidPages, pages, Drive.simple, 3, pages, 1)

    def test_names_of_other_kinds(self):
        for names in values_of_many_kinds() + [-1, 0, 26, 10 ** 39]:
            self.refused_given(InvalidNames, names, Drive, 3, 2, names, ROWS)
            self.refused_given(InvalidNames, names, Drive, rows=ROWS, names=names, pages=2, blocks=3)
            self.refused_given(InvalidNames, names, Drive.simple, 3, 2, names)

    def test_names_just_beyond_their_bounds(self):
        for blocks, pages in all_sizes():
            rows = ((pages, "oldest"),)
            for names in (-1, 0, pages * (blocks - 1) + 1, pages * blocks):
                self.refused_given(InvalidNames, names, Drive, blocks, pages, names, rows)

    def test_the_first_wrong_argument_is_told(self):
        for wrong in values_of_many_kinds() + [-1, 0, 100]:
            self.refused_given(InvalidBlocks, wrong, Drive, wrong, wrong, wrong, wrong)
            self.refused_given(InvalidBlocks, wrong, Drive, wrong, 2, 1, wrong)
            self.refused_given(InvalidBlocks, wrong, Drive, rows=None, names=None, pages=None, blocks=wrong)
            self.refused_given(InvalidPages, wrong, Drive, 3, wrong, wrong, wrong)
            self.refused_given(InvalidPages, wrong, Drive, 3, wrong, 1, None)
            self.refused_given(InvalidNames, wrong, Drive, 3, 2, wrong, wrong)
            self.refused_given(InvalidNames, wrong, Drive.simple, 3, 2, wrong, wrong)


class RowsTest(Refusing):
    def test_no_tuple(self):
        values = [value for value in values_of_many_kinds() if not isinstance(value, tuple)]
        for rows in values + integers_of_many_sizes() + [[(2, "least")], {(2, "least"): 1}, "any: least"]:
            self.refused_rows(None, Drive, 3, 2, 1, rows)
            self.refused_rows(None, Drive, rows=rows, names=1, pages=2, blocks=3)
            self.refused_rows(None, Drive.simple(3, 2, 1).with_rows, rows)

    def test_no_rows(self):
        self.refused_rows(None, Drive, 3, 2, 1, ())
        self.refused_rows(None, Drive.simple(3, 2, 1).with_rows, ())

    def wrong_rows(self):
        rows = values_of_many_kinds() + integers_of_many_sizes()
        rows += [[2, "least"], (2,), ("least",), (2, "least", 2), (2, "least", None), ("least", 2), {2: "least"}]
        rows += [(limit, "least") for limit in values_of_many_kinds() + [-1, 3, 4, 10 ** 39]]
        words = [word for word in values_of_many_kinds() if not isinstance(word, str)] + [2, "", "any", "4", "drive"]
        words += ["Least", "least ", " least", "least\n"]
        words += ["leas", "leastmost", "oldest youngest", ("least",), ["least"], b"least", "MOST", "old"]
        return rows + [(2, word) for word in words]

    def test_a_wrong_row_in_each_place(self):
        for row in self.wrong_rows():
            for many in range(1, 5):
                for index in range(many):
                    rows = [(1, "oldest")] * (many - 1) + [(2, "least")]
                    rows[index] = row
                    self.refused_rows(index, Drive, 3, 2, 1, tuple(rows))
                    self.refused_rows(index, Drive.simple(3, 2, 1).with_rows, tuple(rows))

    def test_the_first_one_of_several_wrong_rows(self):
        self.refused_rows(0, Drive, 3, 2, 1, (None, None))
        self.refused_rows(1, Drive, 3, 2, 1, ((2, "least"), (3, "least"), (2, "newest"), (1, "least")))
        self.refused_rows(0, Drive, 3, 2, 1, ((-1, "least"), (1, "least")))
        self.refused_rows(1, Drive, 3, 2, 1, ((2, "least"), "no", (1, "least")))

    def test_limits_just_beyond_the_pages(self):
        for blocks, pages in all_sizes():
            for limit in (-1, pages + 1):
                self.refused_rows(0, Drive, blocks, pages, 1, ((limit, "most"), (pages, "most")))
                self.refused_rows(1, Drive, blocks, pages, 1, ((0, "most"), (limit, "most")))

    def test_a_last_row_with_another_limit(self):
        for blocks, pages in all_sizes():
            for limit in range(pages):
                for many in range(1, 5):
                    rows = ((pages, "most"),) * (many - 1) + ((limit, "youngest"),)
                    self.refused_rows(many - 1, Drive, blocks, pages, 1, rows)
                    self.refused_rows(many - 1, Drive.simple(blocks, pages, 1).with_rows, rows)

    def test_five_rows_and_more(self):
        for many in (5, 6, 9):
            rows = [(1, "oldest")] * (many - 1) + [(2, "least")]
            self.refused_rows(4, Drive, 3, 2, 1, tuple(rows))
            self.refused_rows(4, Drive, 3, 2, 1, tuple(rows[:-1]) + ((1, "least"),))
            self.refused_rows(4, Drive, 3, 2, 1, tuple(rows[:-1]) + (None,))
            self.refused_rows(4, Drive, 3, 2, 1, ((2, "least"),) * many)
            for index in range(4):
                wrong = list(rows)
                wrong[index] = (3, "least")
                self.refused_rows(index, Drive, 3, 2, 1, tuple(wrong))

    def test_words_of_simple(self):
        for word in values_of_many_kinds() + [0, 1, 2, "any", "Most", "most ", "most\n", ((2, "least"),)]:
            if not isinstance(word, str) or word not in WORDS:
                self.refused_rows(0, Drive.simple, 3, 2, 1, word)
                self.refused_rows(0, Drive.simple, word=word, names=1, pages=2, blocks=3)


class TooManyTest(Refusing):
    def test_exactly_if_more_than_2000_stands_can_be_reached(self):
        refused = []
        for blocks, pages in all_sizes():
            for names in all_names(blocks, pages):
                for word in WORDS:
                    if stands_counted(blocks, pages, names) > 2000:
                        refused.append((blocks, pages, names))
                        self.refused_as_too_many(Drive.simple, blocks, pages, names, word)
                    else:
                        self.assertEqual(names, Drive.simple(blocks, pages, names, word).names)
        least = {}
        for blocks, pages, names in refused:
            least.setdefault((blocks, pages), names)
        self.assertEqual({(5, 4): 11, (5, 5): 8, (6, 3): 8, (6, 4): 6, (6, 5): 6}, least)

    def test_too_many_comes_last(self):
        self.refused_as_too_many(Drive, 6, 5, 25, ((5, "least"),))
        self.refused_as_too_many(Drive, rows=((5, "least"),), names=25, pages=5, blocks=6)
        self.refused_rows(None, Drive, 6, 5, 25, [(5, "least")])
        self.refused_rows(0, Drive, 6, 5, 25, ((4, "least"),))
        self.refused_rows(4, Drive, 6, 5, 25, ((5, "least"),) * 5)
        self.refused_rows(0, Drive.simple, 6, 5, 25, "newest")
        self.refused_given(InvalidNames, 26, Drive, 6, 5, 26, ((5, "least"),))


class WithRefusedTest(Refusing):
    def setUp(self):
        self.drive = Drive(5, 4, 10, ((1, "oldest"), (4, "least")))
        self.text = str(self.drive)

    def tearDown(self):
        self.assertEqual(self.text, str(self.drive))

    def test_blocks(self):
        for blocks in values_of_many_kinds() + [-1, 0, 1, 2, 7, 10 ** 39]:
            self.refused_given(InvalidBlocks, blocks, self.drive.with_blocks, blocks)
            self.refused_given(InvalidBlocks, blocks, self.drive.with_blocks, blocks=blocks)

    def test_names_that_are_too_many_then(self):
        self.refused_given(InvalidNames, self.drive.names, self.drive.with_blocks, 3)
        with self.assertRaises(InvalidNames) as caught:
            Drive.simple(6, 2, 9).with_blocks(5)
        self.assertEqual(9, caught.exception.given)
        self.assertEqual(8, Drive.simple(6, 2, 8).with_blocks(5).names)

    def test_too_many_stands_then(self):
        self.refused_as_too_many(self.drive.with_blocks, 6)
        self.assertEqual(4, self.drive.with_blocks(4).blocks)

    def test_rows(self):
        self.refused_rows(None, self.drive.with_rows, None)
        self.refused_rows(None, self.drive.with_rows, rows=list(self.drive.rows))
        self.refused_rows(1, self.drive.with_rows, ((4, "least"), (3, "least")))
        self.refused_rows(0, self.drive.with_rows, ((5, "least"),))
        self.refused_rows(4, self.drive.with_rows, ((4, "least"),) * 5)


if __name__ == "__main__":
    unittest.main()
