"""Middle parts, and front parts counted by their lengths: point 3.3."""

import unittest

from frontparts.bags import Bag, all_behind, behind, in_order, mirrored, plain, times
from frontparts.errors import IsNothing, TooLong
from frontparts.fronts import back_parts, front_parts
from frontparts.middles import many_by_length, middle_parts
from frontparts.rows import rest_behind
from tests.tools import CLOCKS, Case, all_products, all_tables, ascending, bag, chance_of, nothing, one, pairs
from tests.tools import random_bag, size


def some_bags(seed):
    chance = chance_of(seed)
    for clock in CLOCKS:
        for many in (1, 2, 3, 4):
            yield all_behind([random_bag(chance, clock, "xy", 2, 2) for _ in range(many)])
            yield all_behind([random_bag(chance, clock, "x", 1, 2, 0) for _ in range(many)])


class Middles(Case):

    def test_against_a_search_through_all_candidates(self):
        for clock, letters, most in ((2, "xy", 3), (2, "x", 5), (3, "x", 3), (3, "xy", 2), (5, "x", 2), (7, "x", 3)):
            found = {size_: all_products(clock, letters, size_) for size_ in range(1, most + 1)}
            tables = [words for words in (pairs(clock, table) for table in all_tables(clock, letters, most))
                      if size(words) == most and words[0][1] == 1]
            for words in tables[::max(1, len(tables) // 300)]:
                wanted = {words, (("", 1),)}
                for front, back in found[most].get(words, []):
                    # What is behind a front part has, as fronts, the middle parts that begin there.
                    wanted |= {front, back}
                    wanted |= {middle for middle, _ in found[size(back)].get(back, [])}
                middles = middle_parts(Bag(clock, dict(words)))
                self.assertEqual({part.words for part in middles}, wanted)
                self.assertTrue(ascending(middles))

    def test_fronts_of_all_that_stands_behind_fronts(self):
        for part in some_bags(101):
            found = self.answers(middle_parts, part)
            self.assertIs(type(found), list)
            fronts = front_parts(part)
            wanted = [middle for front in fronts for middle in front_parts(rest_behind(front, part))]
            self.assertEqual(found, in_order(wanted))
            for middle in fronts + back_parts(part):
                self.assertIn(middle, found)
            turned = middle_parts(mirrored(part))
            self.assertEqual(found, in_order([plain(mirrored(middle)) for middle in turned]))
            self.assertEqual(middle_parts(times(part, -1)), found)

    def test_by_hand(self):
        x, y = bag(2, x=1), bag(2, y=1)
        self.assertEqual(middle_parts(bag(2, xyx=1)), [one(2), x, y, bag(2, xy=1), bag(2, yx=1), bag(2, xyx=1)])
        self.assertEqual(middle_parts(bag(3, one=2)), [one(3)])
        self.assertEqual(middle_parts(bag(5, x=2, one=4)), [one(5), bag(5, x=1, one=2)])
        self.assertEqual(middle_parts(bag(2, xyx=1, x=1)), [
            one(2), x, bag(2, xy=1, one=1), bag(2, yx=1, one=1), bag(2, xyx=1, x=1)])

    def test_many_parts(self):
        part = all_behind([bag(7, x=1, one=number) for number in range(1, 7)])
        self.assertEqual(len(middle_parts(part)), 2 ** 6)
        self.assertEqual(len(middle_parts(Bag(3, {"x" * 12: 1}))), 13)
        self.assertEqual(len(middle_parts(Bag(3, {"xy" * 6: 1}))), 24)


class ByLength(Case):

    def test_front_parts_are_counted(self):
        for part in some_bags(102):
            found = self.answers(many_by_length, part)
            self.assertIs(type(found), list)
            lengths = [size(front.words) for front in front_parts(part)]
            self.assertEqual(found, [lengths.count(number) for number in range(size(part.words) + 1)])
            self.assertEqual(sum(found), len(lengths))

    def test_by_hand(self):
        self.assertEqual(many_by_length(Bag(2, {"yxyx": 1, "yx": 1})), [1, 1, 2, 1, 1])
        self.assertEqual(many_by_length(bag(3, one=2)), [1])
        self.assertEqual(many_by_length(bag(3, xx=1, one=1)), [1, 0, 1])
        self.assertEqual(many_by_length(all_behind([bag(5, x=1, one=k) for k in (1, 2, 3)])), [1, 3, 3, 1])
        self.assertEqual(many_by_length(Bag(7, {"z" * 12: 3})), [1] * 13)


class Refusing(Case):

    def test_nothing_and_13_letters(self):
        edge = Bag(2, {"x" * 11 + "y": 1, "y": 1})
        long = behind(edge, bag(2, x=1))
        for call in (middle_parts, many_by_length):
            for clock in CLOCKS:
                self.refuses(IsNothing, call, nothing(clock))
            call(edge)
            self.assertEqual(self.refuses(TooLong, call, long).most, 12)
            self.assertEqual(self.refuses(TooLong, call, behind(long, long)).most, 12)


if __name__ == "__main__":
    unittest.main()
