"""Cuts of level bags, what shows that there is none, and the way of a level bag: point 3.1."""

import itertools
import unittest

from frontparts.bags import Bag, behind, length, plain, power, times
from frontparts.cuts import crossing, cut, is_crossing, level_way
from frontparts.errors import NoNumber, NotLevel
from tests.tools import CLOCKS, Case, bag, chance_of, is_integer, is_plain, multiplied, nothing, odd_things, one
from tests.tools import pairs, product, random_bag, random_table

NOT_LEVEL = [nothing(2), bag(2, x=1, one=1), bag(3, xy=1, y=2), bag(7, xyz=1, xyx=2, xx=1)]


def level_tables(clock, letters, many):
    words = ["".join(word) for word in itertools.product(letters, repeat=many)]
    for numbers in itertools.product(range(clock), repeat=len(words)):
        if any(numbers):
            yield {word: number for word, number in zip(words, numbers) if number}


def random_levels(seed, sizes):
    """Products of level bags of these lengths, and other level bags."""
    chance = chance_of(seed)
    for clock in CLOCKS:
        for _ in range(8):
            parts = [random_bag(chance, clock, "xyz", most, 3, most) for most in sizes]
            yield Bag(clock, dict(multiplied(*parts)))
            yield random_bag(chance, clock, "xy", sum(sizes), 5, sum(sizes))
            yield random_bag(chance, clock, "xy", 2, 2, 2)


def has_crossing(part, number, thing):
    """Whether words show that there is no cut, reckoned here."""
    u, v, s, t = thing
    numbers = dict(part.words)
    straight = numbers.get(u + s, 0) * numbers.get(v + t, 0)
    across = numbers.get(u + t, 0) * numbers.get(v + s, 0)
    return len(u) == len(v) == number and (straight - across) % part.clock != 0


class Cuts(Case):

    def test_against_a_search_through_all_candidates(self):
        for clock, letters, many in ((2, "xy", 3), (2, "xyz", 2), (3, "xy", 2), (5, "xy", 2), (7, "x", 4)):
            for number in range(many + 1):
                found = {}
                for front in level_tables(clock, letters, number):
                    if is_plain(front):
                        for back in level_tables(clock, letters, many - number):
                            key = pairs(clock, product(clock, front, back))
                            self.assertNotIn(key, found)
                            found[key] = (pairs(clock, front), pairs(clock, back))
                for table in level_tables(clock, letters, many):
                    answer = cut(Bag(clock, table), number)
                    if answer is not None:
                        answer = tuple([part.words for part in answer])
                    self.assertEqual(answer, found.get(pairs(clock, table)))

    def test_of_longer_bags(self):
        for part in random_levels(21, (2, 1, 3)):
            for number in range(length(part) + 1):
                found = self.answers(cut, part, number)
                if found is not None:
                    self.assertIs(type(found), tuple)
                    front, back = found
                    self.is_bag(part, part.clock, multiplied(front, back))
                    self.assertTrue(is_plain(front.words))
                    self.assertEqual({len(word) for word, _ in front.words}, {number})

    def test_a_product_is_cut_where_its_parts_meet(self):
        chance = chance_of(22)
        for clock in CLOCKS:
            for _ in range(20):
                front = random_bag(chance, clock, "xyz", 3, 5, 3)
                back = random_bag(chance, clock, "xyz", 4, 5, 4)
                turn = front.words[0][1]
                self.assertEqual(cut(behind(front, back), 3), (plain(front), times(back, turn)))

    def test_at_0_and_at_the_length(self):
        part = bag(5, xy=3, yy=2)
        self.assertEqual(cut(part, 0), (one(5), part))
        self.assertEqual(cut(part, 2), (bag(5, xy=1, yy=4), bag(5, one=3)))
        self.assertEqual(cut(bag(7, one=4), 0), (one(7), bag(7, one=4)))

    def test_by_hand(self):
        self.assertIsNone(cut(bag(2, xy=1, yx=1), 1))
        self.assertEqual(cut(bag(3, xx=2, xy=2, yx=1, yy=1), 1), (bag(3, x=1, y=2), bag(3, x=2, y=2)))
        long = power(bag(7, xyx=1, yzz=3), 4)
        self.assertEqual(cut(long, 6), (power(bag(7, xyx=1, yzz=3), 2),) * 2)
        self.assertIsNone(cut(long, 5))

    def test_300_words_of_12_letters(self):
        words = ["".join(word) for word in itertools.islice(itertools.product("xyz", repeat=12), 300)]
        self.assertIsNone(cut(Bag(2, {word: 1 for word in words}), 7))
        part = Bag(2, {word: 1 for word in words[:243]})
        self.assertEqual(cut(part, 7)[0], Bag(2, {"x" * 7: 1}))
        self.assertEqual(len(cut(part, 8)[1].words), 81)


class Crossings(Case):

    def test_there_is_one_just_if_there_is_no_cut(self):
        for part in [*random_levels(23, (1, 2)), *random_levels(24, (3, 2, 1))]:
            for number in range(length(part) + 1):
                found = self.answers(crossing, part, number)
                self.assertEqual(found is None, cut(part, number) is not None)
                if found is not None:
                    self.assertIs(type(found), tuple)
                    self.assertEqual(len(found), 4)
                    self.assertTrue(has_crossing(part, number, found))
                    self.assertIs(is_crossing(part, number, found), True)

    def test_all_small_ones(self):
        for table in level_tables(2, "xy", 3):
            part = Bag(2, table)
            for number in range(4):
                found = crossing(part, number)
                self.assertEqual(found is None, cut(part, number) is not None)
                if found is not None:
                    self.assertTrue(has_crossing(part, number, found))

    def test_judging_all_words(self):
        words = ["", "x", "y", "z", "xx", "xy", "yx", "yy"]
        for part in (bag(2, xxy=1, yyx=1), bag(3, xxx=1, xyy=1, yxx=1, yyy=2), bag(5, xyx=1, xyy=2)):
            for number in range(4):
                for thing in itertools.product(words, repeat=4):
                    self.assertIs(is_crossing(part, number, thing), has_crossing(part, number, thing))

    def test_what_is_no_crossing(self):
        part = bag(2, xy=1, yx=1)
        right = crossing(part, 1)
        self.assertIs(is_crossing(part, 1, right), True)
        u, v, s, t = right
        for wrong in ([u, v, s, t], (u, v, s), (u, v, s, t, u), (u, u, s, t), (u, v, s, s), (u, v, t + "x", s),
                      ("", v, s, t), (u, v, s, 1), (u, v, s, None), (u, v, s, "a"), (b"x", v, s, t), None,
                      ((u, v), (s, t)), (u, v, s, [t])):
            self.assertIs(is_crossing(part, 1, wrong), False)
        self.assertEqual(self.judges_oddly(is_crossing, part, 1), [("x", "y", "x", "y")])
        self.assertEqual(self.judges_oddly(is_crossing, part, 0), [])

    def test_none_is_none_where_there_is_a_cut(self):
        self.assertIsNone(crossing(bag(2, xx=1), 1))
        self.assertIs(is_crossing(bag(2, xx=1), 1, None), False)
        self.assertEqual(self.judges_oddly(is_crossing, bag(2, xx=1), 1), [])


class LevelWays(Case):

    def test_no_cut_within_and_the_plain_bag_as_product(self):
        for part in [*random_levels(25, (1, 2, 1)), *random_levels(26, (3, 2, 1)), *random_levels(27, (1, 1, 1, 1))]:
            found = self.answers(level_way, part)
            self.assertIs(type(found), tuple)
            self.is_bag(plain(part), part.clock, multiplied(one(part.clock), *found))
            for piece in found:
                self.assertTrue(is_plain(piece.words))
                self.assertGreater(length(piece), 0)
                self.assertEqual(len({len(word) for word, _ in piece.words}), 1)
                for number in range(1, length(piece)):
                    self.assertIsNone(cut(piece, number))

    def test_against_all_small_ways(self):
        pieces = {}
        for many in (1, 2, 3):
            pieces[many] = [Bag(2, table) for table in level_tables(2, "xy", many)]
        products = set()
        for many in (2, 3):
            for number in range(1, many):
                for front, back in itertools.product(pieces[number], pieces[many - number]):
                    products.add(multiplied(front, back))
        for many in (1, 2, 3):
            for part in pieces[many]:
                self.assertEqual(len(level_way(part)) == 1, part.words not in products)

    def test_by_hand(self):
        x, y = bag(3, x=1), bag(3, y=1)
        self.assertEqual(level_way(Bag(3, {"xxyx": 2})), (x, x, y, x))
        self.assertEqual(level_way(bag(3, one=2)), ())
        self.assertEqual(level_way(one(2)), ())
        part = bag(3, xy=2, yx=1)
        self.assertEqual(level_way(part), (bag(3, xy=1, yx=2),))
        self.assertEqual(level_way(behind(behind(y, part), part)), (y, bag(3, xy=1, yx=2), bag(3, xy=1, yx=2)))
        self.assertEqual(level_way(power(bag(5, x=2, y=1), 12)), (bag(5, x=1, y=3),) * 12)


class Refusing(Case):

    def test_not_level(self):
        for part in NOT_LEVEL:
            self.refuses(NotLevel, level_way, part)
            for number in (0, 1, 2, -1, None, "x"):
                self.refuses(NotLevel, cut, part, number)
                self.refuses(NotLevel, crossing, part, number)
                self.refuses(NotLevel, is_crossing, part, number, ("x", "y", "x", "y"))

    def test_no_number(self):
        part = bag(3, xy=1, yx=1)

        def fits(thing):
            return is_integer(thing) and 0 <= thing <= 2
        self.refuses_all_but(fits, NoNumber, lambda thing: cut(part, thing))
        self.refuses_all_but(fits, NoNumber, lambda thing: crossing(part, thing))
        for thing in (None, ("x", "y", "x", "y")):
            self.refuses_all_but(fits, NoNumber, lambda number: is_crossing(part, number, thing))
        self.refuses(NoNumber, cut, one(2), 1)

    def test_the_bag_is_judged_first(self):
        for thing in odd_things():
            self.refuses(NotLevel, cut, NOT_LEVEL[1], thing)
            self.refuses(NotLevel, is_crossing, NOT_LEVEL[0], thing, thing)
            self.refuses(NotLevel, crossing, NOT_LEVEL[0], thing)

    def test_random_tables_that_are_not_level(self):
        chance = chance_of(28)
        for clock in CLOCKS:
            for _ in range(20):
                table = random_table(chance, clock, "xyz", 3, 4)
                level = len({len(word) for word in table}) == 1
                if level:
                    level_way(Bag(clock, table))
                else:
                    self.refuses(NotLevel, level_way, Bag(clock, table))


if __name__ == "__main__":
    unittest.main()
