"""Bags, rows, ways and webs as texts: points 12.1, 12.3 and 12.4."""

import unittest

from frontparts.bags import Bag, behind, plain, power, times
from frontparts.errors import NoRow, NoWay
from frontparts.listing import all_ways
from frontparts.texts import bag_text, row_text, way_text, web_text
from tests.samples import CHAIN, F, FLAT, MANY, Plan, bags_for_texts, line, lines, many_webs, plain_examples
from tests.tools import CLOCKS, Case, bag, deep, is_plain, is_row, nothing, odd_things, one, size


def text_of(part):
    """The text of a bag, term by term."""
    terms = []
    for word, number in part.words:
        terms.append(" ".join([str(number)] * (number > 1 or not word) + [word] * (word != "")))
    return " + ".join(terms) if terms else "0"


class Bags(Case):

    def test_by_hand(self):
        self.assertEqual(bag_text(Bag(3, {"xy": 2, "x": 1, "": 1})), "2 xy + x + 1")
        for clock in CLOCKS:
            self.assertEqual(bag_text(nothing(clock)), "0")
            self.assertEqual(bag_text(one(clock)), "1")
            self.assertEqual(bag_text(bag(clock, x=1)), "x")
            self.assertEqual(bag_text(bag(clock, x=1, y=1, xx=1)), "xx + x + y")
            self.assertEqual(bag_text(bag(clock, one=clock - 1)), str(clock - 1))
        self.assertEqual(bag_text(bag(7, zz=6, zy=1, x=3, one=5)), "zy + 6 zz + 3 x + 5")

    def test_all_kinds_of_bags(self):
        for part in bags_for_texts(1901, 12, 4):
            found = self.answers(bag_text, part)
            self.assertEqual((found, type(found)), (text_of(part), str))

    def test_bags_of_any_size(self):
        long = power(bag(5, x=1, y=2), 10)
        self.assertEqual(bag_text(long), text_of(long))
        self.assertEqual(bag_text(power(Bag(2, {"xyz" * 4: 1}), 12)), "xyz" * 48)


class Rows(Case):

    def test_rows(self):
        bags = list(bags_for_texts(1902, 4, 4))
        for clock in CLOCKS:
            row = [part for part in bags if part.clock == clock]
            for told in (row, row[:1], row[:2], tuple(row[::-1]), row * 20):
                found = self.answers(row_text, told)
                self.assertEqual(found, "".join(text + "\n" for text in [str(clock), *map(text_of, told)]))

    def test_by_hand(self):
        self.assertEqual(row_text([Bag(3, {"xy": 2, "x": 1}), nothing(3), one(3)]), "3\n2 xy + x\n0\n1\n")
        self.assertEqual(row_text((nothing(7),)), "7\n0\n")

    def test_no_row(self):
        self.refuses_all_but(lambda thing: is_row(thing, 10 ** 5), NoRow, row_text)
        for wrong in ([], (), one(2), {0: one(2)}, [one(2), one(3)], (one(2), None), [[one(2)]], "0", [F.words], None, deep(list)):
            self.refuses(NoRow, row_text, wrong)


def is_way(thing):
    return thing == () and type(thing) is tuple or (type(thing) is tuple and is_row(thing, 10 ** 5) and all(
        size(part.words) > 0 and is_plain(part.words) for part in thing))


class Ways(Case):

    def test_ways(self):
        for part in [*plain_examples(), *many_webs(1903, 12)]:
            for way in all_ways(part)[:5]:
                self.assertEqual(self.answers(way_text, way), " . ".join(map(text_of, way)) or "1")

    def test_by_hand(self):
        self.assertEqual(way_text(()), "1")
        self.assertEqual(way_text((bag(3, x=1),)), "x")
        self.assertEqual(way_text((bag(3, x=1, one=2), bag(3, y=1), bag(3, xy=1, x=2))), "x + 2 . y . xy + 2 x")
        # The bags need not be unsplittable.
        self.assertEqual(way_text((F, bag(2, x=1))), "yxyx + yx . x")
        self.assertEqual(way_text((power(bag(2, x=1), 12),) * 2), "xxxxxxxxxxxx . xxxxxxxxxxxx")
        self.assertEqual(way_text((behind(CHAIN, MANY),) * 50), " . ".join([text_of(behind(CHAIN, MANY))] * 50))

    def test_no_way(self):
        self.refuses_all_but(is_way, NoWay, way_text)
        x = bag(3, x=1)
        for wrong in ([], [x], [x, x], x, (one(3),), (x, one(3)), (nothing(3),), (times(x, 2),), (x, times(x, 2)), (x, bag(2, x=1)),
                      (x, None), (None,), ("x",), ((x,),), (x, (x,)), {0: x}, None, "1", deep(tuple), deep(list), (deep(dict, 39),)):
            self.refuses(NoWay, way_text, wrong)


class Webs(Case):

    def test_webs(self):
        for part in [*plain_examples(), *many_webs(1904, 24)]:
            plan = Plan(part)
            wanted = [text_of(knot) for knot in plan.knots] + [f"{a} {b}" for a, b in plan.befores]
            found = self.answers(web_text, part)
            self.assertEqual(found, "".join(text + "\n" for text in wanted))
            self.assertEqual(web_text(plain(part)), found)

    def test_by_hand(self):
        self.assertEqual(web_text(F), "y\nyx\nyx + 1\n0 1\n")
        self.assertEqual(web_text(FLAT), "x\nx + 1\nx + 2\n")
        self.assertEqual(web_text(bag(7, xy=5)), "x\nxy\n0 1\n")
        self.assertEqual(web_text(bag(7, xy=5, one=5)), "xy + 1\n")
        self.assertEqual(web_text(lines(3, (0, 0, 0))), "x\nxx\nxxx\n0 1\n0 2\n1 2\n")

    def test_numbers_alone(self):
        for clock in CLOCKS:
            for number in range(1, clock):
                self.assertEqual(web_text(bag(clock, one=number)), "")

    def test_12_letters(self):
        told = web_text(Bag(5, {"x" * 12: 4})).split("\n")
        self.assertEqual((told[0], told[11], told[12], told[-2:]), ("x", "x" * 12, "0 1", ["10 11", ""]))
        self.assertEqual(len(told), 12 + 66 + 1)

    def test_the_errors_of_front_parts(self):
        self.splits_first(web_text)


class Other(unittest.TestCase):

    def test_the_lines_are_texts_of_bags(self):
        self.assertEqual(text_of(line(3, 2)), "x + 2")
        self.assertTrue(all(is_way(thing) is False for thing in odd_things() if type(thing) is not tuple))


if __name__ == "__main__":
    unittest.main()
