"""Shadows, by which the search for front parts leaves out most of the numbers that it would have to try."""

import unittest

from frontparts.searching import levels_of
from frontparts.shadows import shadow_of
from tests.tools import CLOCKS, chance_of, plus, product, random_table


def shadow(clock, table, front):
    return shadow_of(levels_of(dict(table)), front, clock)


class Shadows(unittest.TestCase):

    def test_products_have_the_products_of_numbers(self):
        chance = chance_of(111)
        for clock in CLOCKS[1:]:
            # The letters must be read as unlike numbers, since their sum counts as 0 for like ones.
            front = {"xx": 1, "xy": clock - 1, "yx": clock - 1, "yy": 1}
            found = shadow(clock, product(clock, front, front, {"x": 1, "": 1}), front)
            self.assertIsNotNone(found)
            self.assertNotEqual(found.of(front), 0)
            for _ in range(20):
                one, other = random_table(chance, clock, "xyz", 2, 3), random_table(chance, clock, "xyz", 2, 3)
                self.assertEqual(found.of(product(clock, one, other)), found.of(one) * found.of(other) % clock)
                self.assertEqual(found.of(plus(clock, one, other)), (found.of(one) + found.of(other)) % clock)

    def test_the_fronts_of_a_product_may_begin_as_they_do(self):
        chance = chance_of(112)
        for clock in CLOCKS:
            for _ in range(20):
                front = {**random_table(chance, clock, "xyz", 2, 3), "xxx": 1}
                back = {**random_table(chance, clock, "xyz", 1, 2), "xy": 1}
                found = shadow(clock, product(clock, front, back), {"xxx": 1})
                told = tuple(found.of(level) * pow(found.of({"xxx": 1}), -1, clock) % clock
                             for level in levels_of(front))
                for many in range(1, 5):
                    self.assertTrue(found.begins(told[:many]))

    def test_what_divides_nothing_does_not_begin(self):
        found = shadow(7, {"x" * 12: 1}, {"x" * 6: 1})
        self.assertEqual([number for number in range(7) if found.begins((1, number))], [0])
        self.assertFalse(shadow(3, {"xx": 1, "": 1}, {"x": 1}).begins((1,)))
        self.assertTrue(shadow(5, {"xx": 1, "": 1}, {"x": 1}).begins((1, 2)))

    def test_none_where_all_readings_give_0(self):
        self.assertIsNone(shadow(3, {"xxy": 1, "xyx": 2}, {"x": 1}))
        self.assertIsNone(shadow(3, {"xyxx": 1, "yxxx": 2, "x": 1}, {"xy": 1, "yx": 2}))


if __name__ == "__main__":
    unittest.main()
