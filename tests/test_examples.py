"""The examples of the document, word for word."""

import unittest

from frontparts.bags import Bag, behind, first, together
from frontparts.fronts import front_parts, is_unsplittable
from frontparts.letters import twist
from frontparts.places import change_places, root
from frontparts.rows import base, continued
from frontparts.starts import beginnings
from frontparts.texts import bag_text
from frontparts.ways import many_ways
from frontparts.webs import befores

x = Bag(2, {"x": 1})
y = Bag(2, {"y": 1})
f = Bag(2, {"yxyx": 1, "yx": 1})


class Examples(unittest.TestCase):

    def test_e01(self):
        self.assertEqual(behind(x, y).words, (("xy", 1),))

    def test_e02(self):
        self.assertEqual(first(Bag(3, {"yx": 2, "xy": 1, "": 1})), "xy")

    def test_e03(self):
        self.assertEqual(
            [part.words for part in front_parts(f)],
            [(("", 1),), (("y", 1),), (("yx", 1),), (("yx", 1), ("", 1)), (("yxy", 1), ("y", 1)),
             (("yxyx", 1), ("yx", 1))],
        )

    def test_e04(self):
        self.assertEqual(befores(f), [(0, 1)])
        self.assertEqual(many_ways(f), 3)

    def test_e05(self):
        self.assertIs(is_unsplittable(Bag(3, {"xx": 1, "": 1})), True)

    def test_e06(self):
        self.assertEqual(len(base([x, Bag(2, {"xy": 1, "": 1})])), 1)

    def test_e07(self):
        self.assertIsNone(continued(x, y))

    def test_e08(self):
        self.assertIs(change_places(x, Bag(2, {"xy": 1, "": 1})), False)

    def test_e09(self):
        self.assertEqual(root(Bag(2, {"xyxy": 1, "xy": 1})).words, (("xy", 1),))

    def test_e10(self):
        self.assertEqual(beginnings("xy", Bag(2, {"x": 1, "yx": 1, "yy": 1})).words, (("y", 1), ("", 1)))

    def test_e11(self):
        self.assertEqual(twist(x, together(y, behind(x, x))), 1)

    def test_e12(self):
        self.assertEqual(bag_text(Bag(3, {"xy": 2, "x": 1, "": 1})), "2 xy + x + 1")


if __name__ == "__main__":
    unittest.main()
