"""The interface of kinds."""

import unittest

from copymeet.kinds import leaf_of
from copymeet.leaves import Bag, Choice, Count
from copymeet.texts import Text
from tests.helpers import add_of, deed

CLASSES = [("count", Count), ("choice", Choice), ("bag", Bag), ("text", Text)]


class TestLeafOf(unittest.TestCase):

    def test_the_right_class(self):
        for kind, expected in CLASSES:
            self.assertIs(type(leaf_of(kind)), expected)

    def test_none_for_a_map_and_a_row(self):
        self.assertIsNone(leaf_of("map"))
        self.assertIsNone(leaf_of("row"))

    def test_a_new_leaf_at_each_call(self):
        for kind, expected in CLASSES:
            self.assertIsNot(leaf_of(kind), leaf_of(kind))
        one = leaf_of("count")
        one.hear(deed("ann", 1, add_of(5)))
        self.assertEqual((one.told(), leaf_of("count").told()), (5, 0))
        for kind, content in [("choice", [(("ann", 1), 3)]), ("bag", [(("ann", 1), 3)])]:
            leaf_of(kind).fill(content)
            self.assertEqual(leaf_of(kind).content(), [])

    def test_they_keep_nothing_at_first(self):
        contents = [leaf_of(kind).content() for kind, expected in CLASSES]
        self.assertEqual(contents, [0, [], [], ([], [])])


if __name__ == "__main__":
    unittest.main()
