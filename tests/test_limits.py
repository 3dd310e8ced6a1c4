import unittest

from spareblocks import limits

VALUES = {
    "LEAST_BLOCKS": 3,
    "MOST_BLOCKS": 6,
    "LEAST_PAGES": 2,
    "MOST_PAGES": 5,
    "MOST_ROWS": 4,
    "MOST_PRICE": 9,
    "MOST_EVENTS": 2000,
    "MOST_WRITES": 500,
    "MOST_STANDS": 2000,
    "MOST_JOINT": 4000,
    "MOST_PICKED": 1000,
}


class LimitsTest(unittest.TestCase):
    def test_every_limit_has_its_value(self):
        for name, value in VALUES.items():
            with self.subTest(name=name):
                self.assertIs(int, type(getattr(limits, name)))
                self.assertEqual(value, getattr(limits, name))


if __name__ == "__main__":
    unittest.main()
