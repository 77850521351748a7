"""Cheapest orders: point 5.6."""

import unittest

from frontparts.bags import Bag, times
from frontparts.errors import NoPrices
from frontparts.priced import cheapest_order, many_cheapest
from tests.samples import CHAIN, F, FLAT, MANY, MOST, WAYS_300, Plan, many_webs, plain_examples
from tests.tools import CLOCKS, Case, bag, chance_of, deep, nothing, odd_things, one


def ordinary(seed):
    return [*plain_examples(), *many_webs(seed, 8), *many_webs(seed + 1, 14, least=4)]


def random_prices(chance, many, most):
    """Prices for some knots and places; few unlike ones, so that several orders are cheapest."""
    pairs = [(knot, place) for knot in range(many) for place in range(many)]
    chosen = chance.sample(pairs, chance.randint(0, len(pairs)))
    return {pair: chance.randint(-most, most) for pair in chosen}


def cost(order, prices):
    return sum(prices.get((knot, place), 0) for place, knot in enumerate(order))


class Cheapest(Case):

    def check(self, part, prices, orders):
        least = min(cost(order, prices) for order in orders)
        cheapest = [order for order in orders if cost(order, prices) == least]
        found = self.answers(cheapest_order, part, prices)
        self.assertEqual(found, (least, min(cheapest)))
        self.assertEqual((type(found), type(found[0]), type(found[1])), (tuple, int, tuple))
        many = self.answers(many_cheapest, part, prices)
        self.assertEqual(many, len(cheapest))
        self.assertIs(type(many), int)

    def test_against_all_orders(self):
        chance = chance_of(801)
        for part in ordinary(802):
            plan = Plan(part)
            orders = plan.orders()
            self.check(part, {}, orders)
            for most in (1, 3, 10 ** 6):
                self.check(part, random_prices(chance, len(plan.knots), most), orders)
        self.check(WAYS_300, random_prices(chance, 11, 2), Plan(WAYS_300).orders())

    def test_by_hand(self):
        self.assertEqual((cheapest_order(F, {}), many_cheapest(F, {})), ((0, (0, 1, 2)), 3))
        self.assertEqual(cheapest_order(F, {(2, 0): -1}), (-1, (2, 0, 1)))
        self.assertEqual(cheapest_order(F, {(0, 0): 2, (2, 0): 2}), (2, (0, 1, 2)))
        self.assertEqual(cheapest_order(F, {(1, 1): 1}), (0, (0, 2, 1)))
        self.assertEqual(many_cheapest(F, {(1, 1): 1}), 2)
        # No order has these at these places.
        self.assertEqual(cheapest_order(F, {(1, 0): -9, (0, 2): -9}), (0, (0, 1, 2)))
        self.assertEqual(cheapest_order(times(FLAT, 2), {(2, 1): -4, (1, 2): -3, (0, 0): 1}), (-6, (0, 2, 1)))
        self.assertEqual(many_cheapest(FLAT, {(2, 1): -4}), 2)
        self.assertEqual(cheapest_order(CHAIN, {(3, 3): 10 ** 6, (2, 2): 10 ** 6}), (2 * 10 ** 6, (0, 1, 2, 3)))

    def test_numbers_alone(self):
        for clock in CLOCKS:
            part = bag(clock, one=clock - 1)
            self.assertEqual((cheapest_order(part, {}), many_cheapest(part, {})), ((0, ()), 1))
            self.refuses(NoPrices, cheapest_order, part, {(0, 0): 1})
            self.refuses(NoPrices, many_cheapest, part, {(0, 0): 0})

    def test_12_letters(self):
        self.assertEqual(many_cheapest(MOST, {}), 479001600 // 2 ** 5)
        price, order = cheapest_order(MANY, {(4, 0): -5, (3, 1): -5, (11, 11): -10 ** 6})
        self.assertEqual((price, order), (-10 ** 6 - 10, (4, 3, 0, 1, 2, 5, 6, 7, 8, 9, 10, 11)))
        # From place 7 on there is room for two of the lines with their squares behind, and 5 and 6 have none.
        prices = {(knot, 11 - knot): -1 for knot in range(7)}
        price, order = cheapest_order(MOST, prices)
        self.assertEqual((price, cost(order, prices)), (-4, -4))


class Refusing(Case):

    def test_prices_at_the_edges(self):
        for price in (10 ** 6, -10 ** 6, 0, 1):
            for pair in ((0, 0), (2, 2), (0, 2), (2, 0)):
                self.assertIs(type(cheapest_order(FLAT, {pair: price})[0]), int)
        for price in (10 ** 6 + 1, -10 ** 6 - 1, 10 ** 40, True, False, None, "1", "", (1,), [1], deep(list), one(3)):
            for call in (cheapest_order, many_cheapest):
                self.refuses(NoPrices, call, FLAT, {(0, 0): price})
                self.refuses(NoPrices, call, FLAT, {(0, 1): 1, (1, 0): price})

    def test_wrong_pairs(self):
        for pair in ((0, 3), (3, 0), (-1, 0), (0, -1), (True, 0), (0, True), (False, False), (0,), (0, 0, 0), (), 0, "00",
                     ("0", "0"), (0, None), None, ((0, 0), 0), (0, (0,)), deep(tuple), (0, 10 ** 40), (0, 1 - 10 ** 40),
                     b"00", range(2), Bag):
            for call in (cheapest_order, many_cheapest):
                self.refuses(NoPrices, call, FLAT, {pair: 1})
                self.refuses(NoPrices, call, FLAT, {(1, 1): 1, pair: 0})

    def test_what_is_no_dict(self):
        for call in (cheapest_order, many_cheapest):
            for part in (FLAT, one(2), CHAIN):
                self.refuses_all_but(lambda thing: thing == {} and type(thing) is dict, NoPrices,
                                     lambda thing: call(part, thing))
            for wrong in ([((0, 0), 1)], (((0, 0), 1),), ((0, 0),), [(0, 0)], None, 0, "", nothing(3)):
                self.refuses(NoPrices, call, FLAT, wrong)

    def test_the_errors_of_front_parts_come_first(self):
        for thing in [*odd_things()[:3], {}, {(0, 0): 1}, {0: 0}, deep(dict)]:
            self.splits_first(cheapest_order, thing)
            self.splits_first(many_cheapest, thing)

    def test_the_prices_are_not_changed(self):
        prices = {(1, 0): 5, (0, 0): -5}
        cheapest_order(FLAT, prices)
        many_cheapest(FLAT, prices)
        self.assertEqual(prices, {(1, 0): 5, (0, 0): -5})


if __name__ == "__main__":
    unittest.main()
