"""The examples of the document, as far as they have landed, word for word."""

import unittest

from frontparts.bags import Bag, behind, first
from frontparts.fronts import front_parts, is_unsplittable
from frontparts.rows import base, continued
from frontparts.ways import many_ways
from frontparts.webs import befores

x = Bag(2, {"x": 1})
y = Bag(2, {"y": 1})
f = Bag(2, {"yxyx": 1, "yx": 1})


class Examples(unittest.TestCase):

    def test_e01(self):
        self.assertEqual(behind(x, y).words, (("xy", 1),))

    def test_e02(self):
        self.assertEqual(first(Bag(3, {"yx": 2, "xy": 1, "": 1})), "xy")

    def test_e03(self):
        self.assertEqual(
            [part.words for part in front_parts(f)],
            [(("", 1),), (("y", 1),), (("yx", 1),), (("yx", 1), ("", 1)), (("yxy", 1), ("y", 1)),
             (("yxyx", 1), ("yx", 1))],
        )

    def test_e04(self):
        self.assertEqual(befores(f), [(0, 1)])
        self.assertEqual(many_ways(f), 3)

    def test_e05(self):
        self.assertIs(is_unsplittable(Bag(3, {"xx": 1, "": 1})), True)

    def test_e06(self):
        self.assertEqual(len(base([x, Bag(2, {"xy": 1, "": 1})])), 1)

    def test_e07(self):
        self.assertIsNone(continued(x, y))


if __name__ == "__main__":
    unittest.main()
