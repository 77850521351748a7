"""Stocks and what can be made of them: point 8.1."""

import unittest

from frontparts.bags import Bag, all_behind, behind, plain, times
from frontparts.errors import NoStock
from frontparts.fronts import front_parts
from frontparts.stocks import cheapest, heights, many_rows
from tests.samples import CHAIN, F, FLAT, WAYS_300, line, lines, many_webs, plain_examples
from tests.tools import CLOCKS, Case, bag, chance_of, deep, is_plain, nothing, odd_things, one, product, size


def all_rows(goal, stock):
    """The pairs of a row of numbers of stock bags, as tuples, and the words of its product, up to the goal's length."""
    begun = [((), (("", 1),))]
    for row, words in begun:
        for number, (part, _) in enumerate(stock):
            if size(words) + size(part.words) <= size(goal.words):
                begun.append((row + (number,), tuple(product(goal.clock, words, part.words).items())))
    return begun


def cost(stock, row):
    return sum(stock[number][1] for number in row)


def some_stocks(seed, many=40):
    """Pairs of a goal and a stock, from which some goals can be made in several ways."""
    chance = chance_of(seed)
    goals = [*plain_examples(), *many_webs(seed + 1, 20, most=6)]
    for turn in range(many):
        goal = chance.choice(goals)
        parts = front_parts(goal)
        bags = [chance.choice(parts) for _ in range(4)] + [line(goal.clock, number) for number in range(3)]
        bags += [line(goal.clock, 1, "yx"), line(goal.clock, 0, "y")]
        chosen = []
        for part in chance.sample(bags, chance.randint(1, len(bags))):
            if part not in chosen and size(part.words) > 0:
                chosen.append(part)
        if chosen:
            yield goal, tuple((part, chance.randint(0, 3)) for part in chosen)


class Stocks(Case):

    def check(self, goal, stock):
        """Checks all that is told of a goal and a stock against all rows; how many rows make the goal."""
        rows = all_rows(goal, stock)
        parts = [part.words for part in front_parts(goal)]
        least = {}
        for row, words in rows:
            words = tuple(sorted(words, key=lambda pair: (-len(pair[0]), pair[0])))
            if words in parts:
                least.setdefault(parts.index(words), []).append(row)
        found = self.answers(heights, goal, stock)
        self.assertIs(type(found), dict)
        self.assertEqual(found, {number: min(cost(stock, row) for row in fits) for number, fits in least.items()})
        for number, price in found.items():
            self.assertEqual((type(number), type(price)), (int, int))
        fits = least.get(len(parts) - 1, [])
        many = self.answers(many_rows, goal, stock)
        self.assertEqual((many, type(many)), (len(fits), int))
        self.check_cheapest(goal, stock, fits)
        return many

    def check_cheapest(self, goal, stock, fits):
        found = self.answers(cheapest, goal, stock)
        if not fits:
            self.assertIsNone(found)
            return
        price, row = found
        self.assertEqual((type(found), len(found), type(price), type(row)), (tuple, 2, int, tuple))
        self.assertEqual(price, min(cost(stock, other) for other in fits))
        self.assertIn(row, fits)
        self.assertEqual(cost(stock, row), price)
        self.assertTrue(all(type(number) is int for number in row))

    def test_against_all_rows(self):
        several = [self.check(goal, stock) for goal, stock in some_stocks(1401, 120)]
        self.assertGreater(several.count(0), 15)
        self.assertGreater(len([many for many in several if many > 1]), 15)

    def test_by_hand(self):
        x, y, yx, yx1 = bag(2, x=1), bag(2, y=1), bag(2, yx=1), bag(2, yx=1, one=1)
        stock = ((x, 1), (y, 2), (yx, 2), (yx1, 4))
        # F is y x (y x + 1), and x y + 1, which y might go on to, is not in the stock.
        self.assertEqual(cheapest(F, stock), (6, (2, 3)))
        self.assertEqual(many_rows(F, stock), 4)
        self.assertEqual(heights(F, stock), {0: 0, 1: 2, 2: 2, 3: 4, 4: 6, 5: 6})
        self.assertEqual(heights(F, ((F, 7),)), {0: 0, 5: 7})
        self.assertEqual(cheapest(F, ((F, 7),)), (7, (0,)))
        self.assertEqual(heights(F, ((x, 7),)), {0: 0})
        self.assertEqual((cheapest(F, ((x, 7),)), many_rows(F, ((x, 7),))), (None, 0))

    def test_what_costs_less_need_not_be_shorter(self):
        x = bag(3, x=1)
        powers = [(Bag(3, {"x" * many: 1}), price) for many, price in ((1, 3), (2, 5), (3, 9), (5, 100))]
        goal = Bag(3, {"x" * 6: 2})
        self.assertEqual(cheapest(goal, tuple(powers)), (15, (1, 1, 1)))
        self.assertEqual(heights(goal, tuple(powers)), {0: 0, 1: 3, 2: 5, 3: 8, 4: 10, 5: 13, 6: 15})
        self.assertEqual(cheapest(goal, ((x, 0), (Bag(3, {"xx": 1}), 0)))[0], 0)

    def test_prices_that_are_alike(self):
        flat = tuple((line(3, number), 10 ** 6) for number in range(3))
        self.assertEqual(cheapest(FLAT, flat)[0], 3 * 10 ** 6)
        self.assertEqual(many_rows(FLAT, flat), 6)
        self.assertEqual(sorted(heights(FLAT, flat).values()), [0] + [10 ** 6] * 3 + [2 * 10 ** 6] * 3 + [3 * 10 ** 6])
        self.check(FLAT, flat)

    def test_numbers_alone(self):
        for clock in CLOCKS:
            for number in range(1, clock):
                goal = bag(clock, one=number)
                for stock in (((bag(clock, x=1), 5),), ((bag(clock, x=1), 0), (bag(clock, y=1), 0))):
                    self.assertEqual(cheapest(goal, stock), (0, ()))
                    self.assertEqual(heights(goal, stock), {0: 0})
                    self.assertEqual(many_rows(goal, stock), 1)

    def test_goals_that_are_not_plain(self):
        for goal, stock in some_stocks(1403, 12):
            for call in (cheapest, heights, many_rows):
                self.assertEqual(call(times(goal, -1), stock), call(goal, stock))

    def test_12_letters_and_12_bags(self):
        goal = Bag(5, {"x" * 12: 3})
        stock = tuple((Bag(5, {"x" * many: 1}), many * many) for many in range(12, 0, -1))
        self.assertEqual(many_rows(goal, stock), 2 ** 11)
        self.assertEqual(cheapest(goal, stock), (12, (11,) * 12))
        self.assertEqual(heights(goal, stock), {number: number for number in range(13)})
        self.assertEqual(cheapest(goal, stock[:-1])[0], 24)
        chain = lines(7, (0, 0, 1, 1, 2, 2, 3, 3, 4, 4, 5, 6))
        stock = tuple((line(7, number), 10 ** 6 - number) for number in range(7))
        self.assertEqual(many_rows(chain, stock), 479001600 // 2 ** 5)
        self.assertEqual(cheapest(chain, stock)[0], 12 * 10 ** 6 - 31)
        self.assertEqual(len(heights(chain, stock)), 972)

    def test_stock_bags_that_are_longer_than_all_that_a_caller_makes(self):
        long = all_behind([Bag(2, {"x" * 12: 1})] * 3)
        self.assertEqual(many_rows(CHAIN, ((bag(5, x=1), 1), (times(bag(5, xx=1), 1), 1))), 5)
        self.assertEqual(many_rows(bag(2, xx=1), ((long, 1), (bag(2, x=1), 1))), 1)
        self.assertIsNone(cheapest(WAYS_300, ((bag(3, y=1), 0),)))


def is_stock(thing, clock):
    """Whether a thing is a stock for a goal by this clock."""
    if type(thing) is not tuple or not 1 <= len(thing) <= 12:
        return False
    for entry in thing:
        if type(entry) is not tuple or len(entry) != 2 or type(entry[0]) is not Bag or entry[0].clock != clock:
            return False
        if size(entry[0].words) < 1 or not is_plain(entry[0].words):
            return False
        if type(entry[1]) is not int or not 0 <= entry[1] <= 10 ** 6:
            return False
    return all(thing[a][0] != thing[b][0] for a in range(len(thing)) for b in range(a))


class Refusing(Case):

    def refused(self, stock, goal=bag(3, xx=1)):
        for call in (cheapest, heights, many_rows):
            self.refuses(NoStock, call, goal, stock)

    def test_things_of_all_kinds(self):
        for call in (cheapest, heights, many_rows):
            self.refuses_all_but(lambda thing: is_stock(thing, 3), NoStock, lambda thing: call(bag(3, xx=1), thing))
        x = bag(3, x=1)
        for thing in odd_things():
            self.refused((thing,))
            self.refused(((x, 1), thing))
            self.refused(((thing, 1, 1),))
            self.refused(((x, 1), (thing, thing, thing)))
            if not (type(thing) is Bag and thing.clock == 3):
                self.refused(((thing, 1),))
            if not (type(thing) is int and 0 <= thing <= 10 ** 6):
                self.refused(((x, thing),))

    def test_right_stocks_with_one_thing_changed(self):
        x, y = bag(3, x=1), bag(3, y=1)
        self.assertEqual(cheapest(bag(3, xx=1), ((x, 0), (y, 10 ** 6))), (0, (0, 0)))
        for wrong in ((), [(x, 0), (y, 1)], ([x, 0], (y, 1)), ((x, 0), (x, 1)), ((x, 1), (y, 2), (x, 1)), ((x, 0), (y,)),
                      ((x, 0), (y, 1, 1)), ((x, 0), y), (x, y), (x, 0), x, {x.words: 0}, None, ((x, -1),), ((x, 10 ** 6 + 1),),
                      ((x, True),), ((x, "1"),), ((x, None),), ((0, x),), ((times(x, 2), 0),), ((one(3), 0),),
                      ((nothing(3), 0),), ((x, 0), (one(3), 0)), ((bag(2, x=1), 0),), ((x, 0), (bag(7, y=1), 0)),
                      (("x", 0),), ((x.words, 0),), ((x, 0), deep(tuple, 39)), deep(tuple), deep(list)):
            self.refused(wrong)

    def test_12_bags_are_let_and_13_are_not(self):
        rows = [(Bag(3, {"x" * many: 1}), 1) for many in range(1, 13)]
        self.assertEqual(many_rows(bag(3, xx=1), tuple(rows)), 2)
        self.refused((*rows, (bag(3, y=1), 1)))
        self.refused(((bag(3, x=1), 1),) * 2)
        self.refused(tuple(rows) * 1000)

    def test_stocks_of_another_clock(self):
        for a in CLOCKS:
            for b in CLOCKS:
                stock = ((bag(b, x=1), 1),)
                for goal in (bag(a, x=1), one(a)):
                    if a == b:
                        self.assertEqual(many_rows(goal, stock), 1)
                    else:
                        self.refused(stock, goal)

    def test_the_errors_of_front_parts_come_first(self):
        for thing in (None, (), ((bag(3, x=1), 1),), ((bag(2, x=1), 1),), deep(tuple)):
            for call in (cheapest, heights, many_rows):
                for clock in CLOCKS:
                    self.splits_first(call, thing)

    def test_the_numbers_are_those_of_the_stock(self):
        goal = all_behind([line(5, 1), line(5, 2, "y")])
        stock = ((bag(5, z=1), 0), (line(5, 2, "y"), 4), (line(5, 1), 3))
        self.assertEqual(cheapest(goal, stock), (7, (2, 1)))
        self.assertEqual(plain(goal), behind(stock[2][0], stock[1][0]))


if __name__ == "__main__":
    unittest.main()
