"""All ways, and how far apart they are: point 5.5."""

import itertools
import unittest

from frontparts.bags import Bag, all_behind, times
from frontparts.errors import TooMany
from frontparts.exchanges import distance
from frontparts.listing import all_ways, farthest
from frontparts.ways import index_of, many_ways, way_at, way_of
from tests.samples import CHAIN, F, FLAT, MANY, MOST, WAYS_300, WAYS_330, Plan, apart, line, lines, many_webs
from tests.samples import plain_examples
from tests.tools import CLOCKS, Case, bag, multiplied


def ordinary(seed):
    return [*plain_examples(), *many_webs(seed, 8), *many_webs(seed + 1, 14, least=4)]


class Listing(Case):

    def test_all_ways_in_the_order_of_their_numbers(self):
        for part in ordinary(701):
            found = self.answers(all_ways, part)
            self.assertIs(type(found), list)
            self.assertEqual(found, [way_of(part, order) for order in Plan(part).orders()])
            for number, way in list(enumerate(found))[::5]:
                self.assertIs(type(way), tuple)
                self.assertEqual(way_at(part, number), way)
                self.assertEqual(index_of(part, way), number)
                self.assertEqual(multiplied(Bag(part.clock, {"": 1}), *way), multiplied(Bag(part.clock, {"": 1}), *found[0]))

    def test_farthest(self):
        for part in ordinary(702):
            found = self.answers(farthest, part)
            self.assertIs(type(found), int)
            orders = Plan(part).orders()
            self.assertEqual(found, max(apart(a, b) for a, b in itertools.product(orders, repeat=2)))
        for part in many_webs(703, 4, knots=4, least=3):
            ways = all_ways(part)
            self.assertEqual(farthest(part), max(distance(part, a, b) for a in ways for b in ways))

    def test_by_hand(self):
        x, y, xy1, yx1 = bag(2, x=1), bag(2, y=1), bag(2, xy=1, one=1), bag(2, yx=1, one=1)
        self.assertEqual(all_ways(F), [(y, x, yx1), (y, xy1, x), (yx1, y, x)])
        self.assertEqual((farthest(F), farthest(FLAT), farthest(CHAIN)), (2, 3, 0))
        self.assertEqual(all_ways(times(CHAIN, 3)), [(line(5, 0),) * 4])
        self.assertEqual(all_ways(lines(3, (2, 1))), [(line(3, 1), line(3, 2)), (line(3, 2), line(3, 1))])

    def test_numbers_alone(self):
        for clock in CLOCKS:
            for number in range(1, clock):
                self.assertEqual(all_ways(bag(clock, one=number)), [()])
                self.assertEqual(farthest(bag(clock, one=number)), 0)

    def test_300_ways_and_more(self):
        self.assertEqual(many_ways(WAYS_300), 300)
        found = all_ways(WAYS_300)
        self.assertEqual(found, [way_of(WAYS_300, order) for order in Plan(WAYS_300).orders()])
        self.assertEqual(farthest(WAYS_300), 8 + 6)
        self.assertEqual(many_ways(WAYS_330), 330)
        row = all_behind([lines(7, range(5)), bag(7, z=1), lines(7, (0, 1, 1))])
        self.assertEqual(many_ways(row), 120 * 3)
        for part in (WAYS_330, row, MANY, MOST):
            for call in (all_ways, farthest):
                self.assertEqual(self.refuses(TooMany, call, part).most, 300)

    def test_12_letters(self):
        self.assertEqual(all_ways(Bag(3, {"xyz" * 4: 2})), [tuple(line(3, 0, letter) for letter in "xyz" * 4)])
        part = lines(2, (0,) * 10 + (1,) * 2)
        self.assertEqual((len(all_ways(part)), farthest(part)), (66, 20))


class Refusing(Case):

    def test_the_errors_of_front_parts(self):
        self.splits_first(all_ways)
        self.splits_first(farthest)


if __name__ == "__main__":
    unittest.main()
