"""Exchanges of neighbours, and which bags stand where: points 5.3 and 5.4."""

import itertools
import unittest

from frontparts.bags import Bag, behind, times
from frontparts.errors import NoKnot, NoPlace, NoWay
from frontparts.exchanges import at_place, distance, exchanged, exchanges, factors_at, is_exchanges
from frontparts.ways import order_of, way_at, way_of
from tests.samples import CHAIN, F, FLAT, MANY, Plan, WAYS_300, apart, ascending_words, line, lines, many_webs
from tests.samples import plain_examples, told
from tests.tools import CLOCKS, Case, bag, chance_of, deep, multiplied, odd_things, one


def ordinary(seed):
    return [*plain_examples(), *many_webs(seed, 6), *many_webs(seed + 1, 9, least=4)]


def some_pairs(seed, orders, many):
    """Pairs of orders, the first and the last one among them."""
    chance = chance_of(seed)
    return [(orders[0], orders[-1]), (orders[-1], orders[0]), (orders[0], orders[0]),
            *[(chance.choice(orders), chance.choice(orders)) for _ in range(many)]]


def wrong_things_for_ways(part):
    """Things that are no way of a bag that is not flat."""
    way = way_at(part, 0)
    return [list(way), way[:-1], way[::-1], way + way, (way,), None, True, 0, (), [], Plan(part).orders()[0], deep(tuple),
            (deep(list, 39),), tuple(times(factor, 0) for factor in way), tuple(factor.words for factor in way),
            (line(2, 0), line(2, 1, "yx"), line(2, 1)), (line(3, 0),) * len(way)]


class Exchanged(Case):

    def test_the_one_other_way_that_is_like_this_one(self):
        for part in ordinary(601):
            plan = Plan(part)
            orders = plan.orders()
            ways = {order: way_of(part, order) for order in orders}
            for order in orders[::max(1, len(orders) // 8)]:
                way = ways[order]
                for place in range(len(order) - 1):
                    found = self.answers(exchanged, part, way, place)
                    others = [other for other in ways.values() if other != way
                              and other[:place] + other[place + 2:] == way[:place] + way[place + 2:]]
                    self.assertEqual([] if found is None else [found], others)
                    self.assertEqual(found is None, plan.is_before(order[place], order[place + 1]))
                    if found is not None:
                        self.assertIs(type(found), tuple)
                        self.assertEqual(exchanged(part, found, place), way)
                        self.assertEqual(multiplied(*found[place:place + 2]), multiplied(*way[place:place + 2]))

    def test_by_hand(self):
        x, y, xy1, yx1 = bag(2, x=1), bag(2, y=1), bag(2, xy=1, one=1), bag(2, yx=1, one=1)
        self.assertEqual(exchanged(F, (y, x, yx1), 1), (y, xy1, x))
        self.assertIsNone(exchanged(F, (y, x, yx1), 0))
        self.assertEqual(exchanged(F, (y, xy1, x), 0), (yx1, y, x))
        self.assertIsNone(exchanged(F, (yx1, y, x), 1))
        self.assertIsNone(exchanged(CHAIN, (line(5, 0),) * 4, 2))

    def test_wrong_places_and_ways(self):
        for part in (F, FLAT, times(lines(3, (1, 2)), 2), bag(2, x=1), one(2), CHAIN):
            way = way_at(part, 0)
            last = len(way) - 2
            self.refuses_all_but(lambda thing: type(thing) is int and 0 <= thing <= last, NoPlace,
                                 lambda thing: exchanged(part, way, thing))
            for wrong in (-1, last + 1, last + 2, -len(way), True, False, None, "0", (0,), deep(list)):
                self.refuses(NoPlace, exchanged, part, way, wrong)
            for wrong in odd_things():
                if way != () or wrong != ():
                    for place in (0, -1, None):
                        self.refuses(NoWay, exchanged, part, wrong, place)
        for wrong in wrong_things_for_ways(F):
            self.refuses(NoWay, exchanged, F, wrong, 0)
            self.refuses(NoWay, exchanged, F, wrong, deep(tuple))


class Distances(Case):

    def test_the_fewest_exchanges_by_a_search(self):
        for part in ordinary(611):
            orders = Plan(part).orders()
            ways = {tuple(told(way_of(part, order))): order for order in orders}
            start = orders[len(orders) // 2]
            fewest = {start: 0}
            queue = [start]
            for order in queue:
                way = way_of(part, order)
                for place in range(len(order) - 1):
                    found = exchanged(part, way, place)
                    other = None if found is None else ways[tuple(told(found))]
                    if other is not None and other not in fewest:
                        fewest[other] = fewest[order] + 1
                        queue.append(other)
                if len(queue) > 40:
                    break
            for other in queue[::max(1, len(queue) // 20)]:
                found = self.answers(distance, part, way_of(part, start), way_of(part, other))
                self.assertIs(type(found), int)
                self.assertEqual(found, fewest[other])

    def test_the_pairs_that_stand_the_other_way_about(self):
        for part in ordinary(612):
            for order, other in some_pairs(613, Plan(part).orders(), 5):
                way, goal = way_of(part, order), way_of(part, other)
                self.assertEqual(distance(part, way, goal), apart(order, other))
                self.assertEqual(distance(part, goal, way), apart(order, other))

    def test_exchanges_lead_there(self):
        for part in ordinary(614):
            for order, other in some_pairs(615, Plan(part).orders(), 4):
                way, goal = way_of(part, order), way_of(part, other)
                found = self.answers(exchanges, part, way, goal)
                self.assertIs(type(found), tuple)
                self.assertEqual(len(found), apart(order, other))
                self.assertIs(self.answers(is_exchanges, part, way, goal, found), True)
                for place in found:
                    self.assertIs(type(place), int)
                    way = exchanged(part, way, place)
                self.assertEqual(way, goal)

    def test_by_hand(self):
        ways = [way_at(FLAT, number) for number in range(6)]
        self.assertEqual([distance(FLAT, ways[0], way) for way in ways], [0, 1, 1, 2, 2, 3])
        self.assertIn(exchanges(FLAT, ways[0], ways[5]), [(0, 1, 0), (1, 0, 1)])
        self.assertEqual(exchanges(FLAT, ways[1], ways[0]), (1,))
        self.assertEqual(exchanges(F, way_at(F, 0), way_at(F, 2)), (1, 0))
        for clock in CLOCKS:
            part = bag(clock, one=clock - 1)
            self.assertEqual((distance(part, (), ()), exchanges(part, (), ())), (0, ()))

    def test_bags_of_12_letters(self):
        for part, many in ((MANY, 1663200), (WAYS_300, 300)):
            first, last = way_at(part, 0), way_at(part, many - 1)
            found = exchanges(part, first, last)
            self.assertEqual(len(found), apart(order_of(part, first), order_of(part, last)))
            self.assertEqual(distance(part, first, last), len(found))
            self.assertIs(is_exchanges(part, first, last, found), True)
            self.assertIs(is_exchanges(part, last, first, found[::-1]), True)

    def test_no_ways(self):
        x2, x3 = one(2), one(3)
        for call in (distance, exchanges, lambda *told_: is_exchanges(*told_, ())):
            for part in (F, FLAT):
                way = way_at(part, 0)
                for wrong in odd_things():
                    self.refuses(NoWay, call, part, way, wrong)
                    self.refuses(NoWay, call, part, wrong, way)
            for wrong in wrong_things_for_ways(F):
                self.refuses(NoWay, call, F, way_at(F, 1), wrong)
                self.refuses(NoWay, call, F, wrong, way_at(F, 1))
                self.refuses(NoWay, call, F, wrong, wrong)
            self.refuses(NoWay, call, x2, (), (x2,))
            self.refuses(NoWay, call, x2, (x3,), ())
            self.refuses(NoWay, call, times(FLAT, 2), way_at(FLAT, 0), (times(line(3, 0), 2), line(3, 1), line(3, 2)))


class Judging(Case):

    def test_right_ones_and_right_ones_with_one_thing_changed(self):
        chance = chance_of(621)
        for part in [F, FLAT, CHAIN, *many_webs(622, 10, least=3)]:
            plan = Plan(part)
            for order, other in some_pairs(623, plan.orders(), 2):
                way, goal = way_of(part, order), way_of(part, other)
                right = exchanges(part, way, goal)
                places = range(-1, len(order))
                for _ in range(12):
                    at = chance.randint(0, len(right))
                    thing = right[:at] + (chance.choice(places),) * chance.randint(0, 3) + right[at + chance.randint(0, 1):]
                    self.assertIs(is_exchanges(part, way, goal, thing), self.leads(plan, order, other, thing))

    def leads(self, plan, order, goal, places):
        row = list(order)
        for place in places:
            if not 0 <= place <= len(row) - 2 or plan.is_before(row[place], row[place + 1]):
                return False
            row[place:place + 2] = row[place:place + 2][::-1]
        return tuple(row) == goal

    def test_detours(self):
        first, last = way_at(FLAT, 0), way_at(FLAT, 5)
        for right in ((0, 1, 0), (1, 0, 1), (0, 0, 0, 1, 0), (1, 1) * 500 + (1, 0, 1), (0, 1, 0, 1, 0, 1, 0, 1, 0)):
            self.assertIs(is_exchanges(FLAT, first, last, right), True)
        for wrong in ((0, 1), (0, 1, 1), (), (0, 1, 0, 1), (2, 0, 1, 0), (0, 1, 0, -1), (0, 1, 2), (1, 0)):
            self.assertIs(is_exchanges(FLAT, first, last, wrong), False)
        self.assertIs(is_exchanges(FLAT, first, first, ()), True)
        self.assertIs(is_exchanges(FLAT, first, first, (0,) * 20000), True)
        self.assertIs(is_exchanges(F, way_at(F, 0), way_at(F, 0), (0, 0)), False)

    def test_things_of_all_kinds(self):
        first = way_at(FLAT, 0)
        self.assertEqual(self.judges_oddly(is_exchanges, FLAT, first, way_at(FLAT, 2)), [(0,)])
        self.assertEqual(self.judges_oddly(is_exchanges, FLAT, first, first), [()])
        self.assertEqual(self.judges_oddly(is_exchanges, one(3), (), ()), [()])
        for wrong in ([0], (False,), ("0",), ((0,),), (0, None), (0, 0, False), {0: 0}, 0, "0", None, (0, deep(list)),
                      deep(tuple), (0, 10 ** 40)):
            self.assertIs(is_exchanges(FLAT, first, way_at(FLAT, 2), wrong), False)


class Standing(Case):

    def test_the_bags_at_places_and_for_knots(self):
        for part in ordinary(631):
            plan = Plan(part)
            orders = plan.orders()
            ways = [way_of(part, order) for order in orders]
            for place in range(len(plan.knots)):
                found = self.answers(at_place, part, place)
                self.assertIs(type(found), list)
                self.assertEqual(told(found), ascending_words([way[place] for way in ways]))
                found = self.answers(factors_at, part, place)
                self.assertIs(type(found), list)
                bags = [way[order.index(place)] for order, way in zip(orders, ways)]
                self.assertEqual(told(found), ascending_words(bags))
                self.assertTrue(all(type(factor) is Bag for factor in found))

    def test_by_hand(self):
        x, y, xy1, yx1 = bag(2, x=1), bag(2, y=1), bag(2, xy=1, one=1), bag(2, yx=1, one=1)
        self.assertEqual([at_place(F, place) for place in range(3)], [[y, yx1], [x, y, xy1], [x, yx1]])
        self.assertEqual([factors_at(F, knot) for knot in range(3)], [[y], [x], [xy1, yx1]])
        self.assertEqual(at_place(FLAT, 1), [line(3, 0), line(3, 1), line(3, 2)])
        self.assertEqual(factors_at(times(FLAT, 2), 1), [line(3, 1)])
        self.assertEqual(at_place(CHAIN, 3), [bag(5, x=1)])

    def test_bags_of_12_letters(self):
        self.assertEqual(at_place(MANY, 0), [line(5, number) for number in range(5)])
        self.assertEqual([factors_at(MANY, knot) for knot in range(5)], [[line(5, number)] for number in range(5)])
        part = behind(lines(2, (1, 1, 0, 1, 0)), Bag(2, {"z": 1, "x": 1}))
        self.assertEqual(at_place(part, 5), [bag(2, z=1, x=1)])

    def test_wrong_places_and_knots(self):
        for part in (F, FLAT, bag(2, x=1), one(5), CHAIN):
            many = len(Plan(part).knots)
            for call, error in ((at_place, NoPlace), (factors_at, NoKnot)):
                self.refuses_all_but(lambda thing: type(thing) is int and 0 <= thing < many, error,
                                     lambda thing: call(part, thing))
                for wrong in (-1, many, -many, many + 1, 10 ** 40, True, False, None, "0", (0,), [0], deep(dict)):
                    if wrong != -many or many:
                        self.refuses(error, call, part, wrong)
                if many:
                    call(part, many - 1)


class Refusing(Case):

    def test_the_errors_of_front_parts_come_first(self):
        for thing in (None, (), -1, (one(3),), deep(tuple)):
            for call in (at_place, factors_at):
                self.splits_first(call, thing)
            for call in (exchanged, distance, exchanges):
                self.splits_first(call, thing, thing)
            self.splits_first(is_exchanges, thing, thing, thing)


if __name__ == "__main__":
    unittest.main()
