"""Ways, orders and their numbers: points 5.1 and 5.2."""

import itertools
import unittest

from frontparts.bags import Bag, all_behind, behind, mirrored, plain, times
from frontparts.errors import NoNumber, NoOrder, NoWay
from frontparts.fronts import is_unsplittable
from frontparts.ways import index_of, is_way, many_ways, order_of, way_at, way_of
from tests.samples import CHAIN, F, FLAT, MANY, MOST, WAYS_300, Plan, line, lines, many_webs, plain_examples, told
from tests.samples import ways_of_products
from tests.tools import CLOCKS, Case, all_products, bag, chance_of, deep, multiplied, nothing, odd_things, one


def ordinary(seed):
    return [*plain_examples(), *many_webs(seed, 12), *many_webs(seed + 1, 16, least=4)]


def wrong_ways(way):
    """Things that are like a way of a bag by the clock 2 or more, of two bags or more, but for one thing."""
    clock = way[0].clock
    x = bag(3 if clock == 2 else 2, x=1)
    yield from (list(way), way[:-1], way[1:], way + (one(clock),), (one(clock),) + way, way + way, (way,))
    yield from (way[:-1] + (None,), way[:-1] + ([way[-1]],), way[:-1] + ((way[-1],),), way[:-1] + (way[-1].words,))
    yield from (way[:-1] + (behind(way[-1], bag(clock, x=1)),), way[:-1] + (nothing(clock),), way[:-1] + (x,))
    yield from ((all_behind(way),), (behind(way[0], way[1]),) + way[2:], (behind(way[0], way[1]), one(clock)) + way[2:])
    if clock > 2:
        yield (times(way[0], -1),) + way[1:]
        yield (times(way[0], -1), times(way[1], -1)) + way[2:]


class Orders(Case):

    def test_the_ways_are_just_the_orders(self):
        for part in ordinary(501):
            plan = Plan(part)
            orders = plan.orders()
            self.assertEqual(self.answers(many_ways, part), len(orders))
            ways = []
            for order in orders[::max(1, len(orders) // 12)]:
                way = self.answers(way_of, part, order)
                self.assertIs(type(way), tuple)
                for many in range(len(order) + 1):
                    front = plan.part(order[:many])
                    self.assertEqual(front.words, multiplied(one(part.clock), *way[:many]))
                for factor in way:
                    self.assertEqual(factor.words[0][1], 1)
                    self.assertTrue(is_unsplittable(factor))
                self.assertIs(self.answers(is_way, part, way), True)
                self.assertEqual(self.answers(order_of, part, way), order)
                ways.append(way)
            self.assertEqual(len({tuple(told(way)) for way in ways}), len(ways))

    def test_small_bags_by_all_their_products(self):
        for clock, letters, most in ((2, "xy", 3), (2, "x", 5), (3, "x", 4), (5, "x", 3), (7, "x", 3), (3, "xy", 2)):
            products = {many: all_products(clock, letters, many) for many in range(1, most + 1)}
            for words in chance_of(502).sample(sorted(products[most]), min(80, len(products[most]))):
                part = Bag(clock, dict(words))
                wanted = ways_of_products(products, words)
                orders = Plan(part).orders()
                self.assertEqual({tuple(told(way_of(part, order))) for order in orders}, wanted)
                self.assertEqual(many_ways(part), len(wanted))
                for way in wanted:
                    self.assertIs(is_way(part, tuple(Bag(clock, dict(factor)) for factor in way)), True)

    def test_by_hand(self):
        x, y, xy1, yx1 = bag(2, x=1), bag(2, y=1), bag(2, xy=1, one=1), bag(2, yx=1, one=1)
        self.assertEqual([way_of(F, order) for order in ((0, 1, 2), (0, 2, 1), (2, 0, 1))],
                         [(y, x, yx1), (y, xy1, x), (yx1, y, x)])
        self.assertEqual(order_of(F, (y, xy1, x)), (0, 2, 1))
        self.assertEqual(way_of(times(FLAT, 2), (2, 0, 1)), (line(3, 2), line(3, 0), line(3, 1)))
        self.assertEqual(way_of(CHAIN, (0, 1, 2, 3)), (bag(5, x=1),) * 4)
        self.assertEqual((many_ways(F), many_ways(FLAT), many_ways(CHAIN)), (3, 6, 1))
        self.assertIs(is_way(F, (y, x, xy1)), False)

    def test_numbers_alone(self):
        for clock in CLOCKS:
            for number in range(1, clock):
                part = bag(clock, one=number)
                self.assertEqual((way_of(part, ()), order_of(part, ()), many_ways(part)), ((), (), 1))
                self.assertEqual((way_at(part, 0), index_of(part, ())), ((), 0))
                self.assertIs(is_way(part, ()), True)
                for wrong in ([], (one(clock),), (part,), None, one(clock)):
                    self.assertIs(is_way(part, wrong), False)
                    self.refuses(NoWay, order_of, part, wrong)
                    self.refuses(NoWay, index_of, part, wrong)
                for wrong in ([], (0,), None, False):
                    self.refuses(NoOrder, way_of, part, wrong)
                for wrong in (1, -1, False, None):
                    self.refuses(NoNumber, way_at, part, wrong)

    def test_unsplittable_bags(self):
        part = bag(7, xyx=3, y=1)
        self.assertEqual(way_of(part, (0,)), (plain(part),))
        self.assertEqual(order_of(part, (plain(part),)), (0,))
        self.assertIs(is_way(part, (part,)), False)


class Numbers(Case):

    def test_the_ways_are_numbered_as_their_orders_compare(self):
        for part in ordinary(511):
            orders = Plan(part).orders()
            self.assertEqual(orders, sorted(orders))
            for number, order in list(enumerate(orders))[::max(1, len(orders) // 12)]:
                way = self.answers(way_at, part, number)
                self.assertIs(type(way), tuple)
                self.assertEqual(way, way_of(part, order))
                self.assertEqual(self.answers(index_of, part, way), number)
            self.assertEqual(way_at(part, len(orders) - 1), way_of(part, orders[-1]))

    def test_numbers_of_no_way(self):
        for part, many in ((F, 3), (FLAT, 6), (CHAIN, 1), (WAYS_300, 300)):
            self.refuses_all_but(lambda thing: type(thing) is int and 0 <= thing < many, NoNumber,
                                 lambda thing: way_at(part, thing))
            for wrong in (-1, many, many + 1, -many, 10 ** 40, "0", "", None, True, False, (0,), [0], deep(list)):
                self.refuses(NoNumber, way_at, part, wrong)
            for right in (0, many - 1):
                self.assertEqual(index_of(part, way_at(part, right)), right)

    def test_300_ways(self):
        self.assertEqual(many_ways(WAYS_300), 300)
        orders = Plan(WAYS_300).orders()
        for number in (0, 1, 29, 149, 150, 298, 299):
            way = way_at(WAYS_300, number)
            self.assertEqual(order_of(WAYS_300, way), orders[number])
            self.assertEqual(index_of(WAYS_300, way), number)

    def test_many_ways_of_12_letters(self):
        many = 479001600 // 2 ** 5
        self.assertEqual(many_ways(MOST), many)
        # The greatest knot that can be next, each time: a square comes as soon as its line is there.
        last = (6, 5, 4, 8, 3, 11, 2, 10, 1, 9, 0, 7)
        way = way_at(MOST, many - 1)
        self.assertEqual((order_of(MOST, way), index_of(MOST, way)), (last, many - 1))
        self.refuses(NoNumber, way_at, MOST, many)
        self.assertEqual(many_ways(MANY), 479001600 // (6 * 6 * 2 * 2 * 2))
        for number in (0, 1, 2, 777777, many_ways(MANY) - 1):
            way = way_at(MANY, number)
            self.assertEqual(index_of(MANY, way), number)
            self.assertEqual(all_behind(way), MANY)


class Refusing(Case):

    def test_the_errors_of_front_parts_come_first(self):
        self.splits_first(many_ways)
        for call in (way_of, order_of, is_way, way_at, index_of):
            for thing in (None, (), -1, (one(3),), deep(tuple)):
                self.splits_first(call, thing)

    def test_no_order(self):
        for part in (F, FLAT, CHAIN, bag(2, x=1), *many_webs(521, 6, least=3)):
            orders = Plan(part).orders()
            self.refuses_all_but(
                lambda thing: type(thing) is tuple and all(type(k) is int for k in thing) and thing in orders,
                NoOrder, lambda thing: way_of(part, thing))
            rows = list(itertools.permutations(range(len(orders[0]))))
            for row in rows[::max(1, len(rows) // 50)]:
                if row not in orders:
                    self.refuses(NoOrder, way_of, part, row)
        for wrong in ([0, 1, 2], (0, 1), (0, 1, 2, 2), (0, 1, 1), (0, 1, 3), (-1, 0, 1), (False, True, 2), (0, True, 2),
                      ("0", "1", "2"), ((0,), (1,), (2,)), (0, 1, None), (0, 1, deep(tuple)), {0: 0, 1: 1, 2: 2},
                      tuple(range(20000)), (0, 1, 10 ** 40), (1, 0, 2), 0, None, way_at(F, 0)):
            self.refuses(NoOrder, way_of, F, wrong)

    def test_no_way(self):
        for part in (F, FLAT, CHAIN, *many_webs(522, 2, least=2)):
            way = way_at(part, 0)
            for wrong in [*odd_things(), *wrong_ways(way), Plan(part).orders()[0], deep(tuple, 39) * len(way)]:
                self.assertIs(is_way(part, wrong), False)
                self.refuses(NoWay, order_of, part, wrong)
                self.refuses(NoWay, index_of, part, wrong)

    def test_the_bags_of_a_way_in_other_orders(self):
        for part in (F, FLAT, *many_webs(523, 8, least=2)):
            ways = {tuple(told(way_of(part, order))) for order in Plan(part).orders()}
            rows = list(itertools.permutations(way_at(part, 0)))
            for row in rows[::max(1, len(rows) // 60)]:
                self.assertIs(is_way(part, row), tuple(told(row)) in ways)
            self.assertTrue(all(is_way(mirrored(part), tuple(plain(mirrored(factor)) for factor in row[::-1]))
                                for row in [way_at(part, 0)]))

    def test_ways_of_other_bags(self):
        parts = [F, FLAT, CHAIN, *many_webs(524, 6, least=2)]
        for part, other in itertools.permutations(parts, 2):
            if plain(part) != plain(other):
                self.assertIs(is_way(part, way_at(other, 0)), False)
                self.refuses(NoWay, order_of, part, way_at(other, 0))
        for clock in (3, 5, 7):
            part = lines(clock, (1, 2))
            self.assertEqual(order_of(times(part, 2), way_at(part, 1)), (1, 0))
            for other in CLOCKS:
                if other != clock:
                    self.refuses(NoWay, order_of, part, (line(other, 1), line(other, 2)))

    def test_large_bags_that_are_in_no_way(self):
        large = Bag(2, {"x" * 12: 1, "y": 1})
        large = behind(behind(large, large), large)
        self.assertIs(is_way(F, (large, large, large)), False)
        self.assertIs(is_way(FLAT, tuple([line(3, 0)] * 20000)), False)


if __name__ == "__main__":
    unittest.main()
