"""Interface: bounds. Points [4], [12] and [15] give the values."""

import unittest

from duelsets import bounds


class BoundsTest(unittest.TestCase):
    def check(self, value, expected):
        self.assertEqual(value, expected)
        self.assertIs(type(value), int)

    def test_max_size(self):
        self.check(bounds.MAX_SIZE, 9)

    def test_max_entries(self):
        self.check(bounds.MAX_ENTRIES, 20)

    def test_edits(self):
        self.check(bounds.EDITS, 60)

    def test_batch(self):
        self.check(bounds.BATCH, 20)


if __name__ == "__main__":
    unittest.main()
