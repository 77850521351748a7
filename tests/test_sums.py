"""Laying bags together and behind one another, their lengths and first words: points 1.2 to 1.4."""

import itertools
import unittest

from frontparts.bags import (
    Bag, all_behind, all_together, behind, first, in_order, length, less, level_of, mirrored, number_at, plain,
    power, replaced, times, together, top,
)
from frontparts.errors import IsNothing, NoBags, NoNumber, NoRow, NoWord, UnlikeClocks
from tests.tools import CLOCKS, Case, ascending, bag, chance_of, deep, is_integer, is_row, is_word, multiplied
from tests.tools import nothing, odd_things, one, pairs, plus, product, random_bag, size, words_up_to
from tests.tools import times as number_times


def some_bags(seed, many=12, most=4):
    """Bags by all clocks, nothing and numbers alone among them."""
    chance = chance_of(seed)
    for clock in CLOCKS:
        yield nothing(clock)
        yield one(clock)
        yield Bag(clock, {"": clock - 1})
        for _ in range(many):
            yield random_bag(chance, clock, most=most, many=6)


def some_pairs(seed):
    for clock in CLOCKS:
        bags = [part for part in some_bags(seed, 6, 3) if part.clock == clock]
        yield from itertools.product(bags, repeat=2)


class TwoBags(Case):

    def test_together(self):
        for a, b in some_pairs(1):
            self.is_bag(self.answers(together, a, b), a.clock, pairs(a.clock, plus(a.clock, a.words, b.words)))

    def test_less(self):
        for a, b in some_pairs(2):
            taken = number_times(a.clock, b.words, -1)
            self.is_bag(self.answers(less, a, b), a.clock, pairs(a.clock, plus(a.clock, a.words, taken)))
            self.is_bag(less(a, a), a.clock, ())

    def test_behind(self):
        for a, b in some_pairs(3):
            self.is_bag(self.answers(behind, a, b), a.clock, multiplied(a, b))

    def test_behind_by_hand(self):
        found = behind(bag(3, x=2, one=1), bag(3, xy=1, y=1))
        self.is_bag(found, 3, (("xxy", 2), ("y", 1)))
        self.is_bag(behind(bag(2, x=1, y=1), bag(2, x=1, y=1)), 2, (("xx", 1), ("xy", 1), ("yx", 1), ("yy", 1)))

    def test_results_are_not_bound_in_size(self):
        words = [word for word in words_up_to("xy", 9) if len(word) == 9][:300]
        long = Bag(2, {word + "xxx": 1 for word in words})
        found = behind(long, long)
        self.assertEqual((len(found.words), length(found)), (90000, 24))
        self.assertEqual(number_at(found, words[0] + "xxx" + words[299] + "xxx"), 1)
        self.assertEqual(less(found, found), nothing(2))

    def test_unlike_clocks(self):
        for call in (together, less, behind):
            for a, b in itertools.permutations(CLOCKS, 2):
                self.refuses(UnlikeClocks, call, bag(a, x=1), bag(b, x=1))
                self.refuses(UnlikeClocks, call, nothing(a), nothing(b))


class Times(Case):

    def test_times(self):
        for part in some_bags(4):
            for number in (0, 1, -1, part.clock - 1, part.clock, part.clock + 1, -part.clock, 10 ** 40 - 1,
                           1 - 10 ** 40):
                wanted = number_times(part.clock, part.words, number)
                self.is_bag(self.answers(times, part, number), part.clock, pairs(part.clock, wanted))

    def test_no_number(self):
        self.refuses_all_but(is_integer, NoNumber, lambda thing: times(bag(3, x=1), thing))


class Power(Case):

    def test_power(self):
        for part in some_bags(5, 4, 2):
            for number in range(4):
                wanted = product(part.clock, *[part.words] * number)
                self.is_bag(self.answers(power, part, number), part.clock, pairs(part.clock, wanted))

    def test_the_edges(self):
        for clock in CLOCKS:
            self.is_bag(power(nothing(clock), 0), clock, (("", 1),))
            self.is_bag(power(nothing(clock), 12), clock, ())
            self.is_bag(power(bag(clock, x=1), 12), clock, (("x" * 12, 1),))
        found = power(bag(5, x=1, y=1), 12)
        self.assertEqual(len(found.words), 4096)
        self.is_bag(power(Bag(3, {"xyz" * 4: 2}), 12), 3, (("xyz" * 48, 1),))

    def test_what_was_returned_is_passed_on(self):
        long = power(Bag(2, {"x" * 12: 1, "": 1}), 3)
        self.assertEqual(number_at(long, "x" * 24), 1)
        self.assertEqual(length(power(long, 12)), 432)

    def test_no_number(self):
        self.refuses_all_but(lambda thing: is_integer(thing) and 0 <= thing <= 12, NoNumber,
                             lambda thing: power(bag(3, x=1), thing))


class NumberAt(Case):

    def test_number_at(self):
        for part in some_bags(6):
            for word in words_up_to("xyz", 3):
                self.assertEqual(self.answers(number_at, part, word), dict(part.words).get(word, 0))

    def test_longer_words_have_no_number_there(self):
        self.assertEqual(number_at(bag(3, x=1), "x" * 500), 0)

    def test_no_word(self):
        self.refuses_all_but(is_word, NoWord, lambda thing: number_at(bag(3, x=1, one=2), thing))


class Mirrored(Case):

    def test_mirrored(self):
        for part in some_bags(7):
            wanted = {word[::-1]: number for word, number in part.words}
            self.is_bag(self.answers(mirrored, part), part.clock, pairs(part.clock, wanted))


class Replaced(Case):

    def wanted(self, part, bags):
        tables = []
        for word, number in part.words:
            tables.append(product(part.clock, {"": number}, *[bags[letter].words for letter in word]))
        return pairs(part.clock, plus(part.clock, *tables))

    def test_replaced(self):
        chance = chance_of(8)
        for part in some_bags(8, 8, 3):
            for _ in range(3):
                bags = {letter: random_bag(chance, part.clock, most=2, many=3) for letter in "zxy"}
                self.is_bag(self.answers(replaced, part, bags), part.clock, self.wanted(part, bags))

    def test_by_nothing_and_by_numbers(self):
        part = bag(5, xy=2, y=2, one=4)
        self.is_bag(replaced(part, {"x": nothing(5), "y": bag(5, y=1)}), 5, (("y", 2), ("", 4)))
        self.is_bag(replaced(part, {"x": bag(5, one=2), "y": bag(5, one=3)}), 5, (("", 2),))

    def test_letters_that_the_bag_has_not(self):
        self.is_bag(replaced(nothing(2), {}), 2, ())
        self.is_bag(replaced(one(2), {}), 2, (("", 1),))
        self.is_bag(replaced(bag(2, x=1), {"z": one(2), "x": bag(2, y=1)}), 2, (("y", 1),))

    def test_words_of_12_letters(self):
        part = Bag(2, {"x" * 12: 1, "xy" * 6: 1})
        bags = {"x": bag(2, x=1, one=1), "y": bag(2, y=1)}
        self.is_bag(replaced(part, bags), 2, self.wanted(part, bags))

    def test_no_bags(self):
        self.refuses_all_but(lambda thing: type(thing) is dict and "x" in thing and type(thing["x"]) is Bag,
                             NoBags, lambda thing: replaced(bag(2, x=1), thing))
        x, y = bag(2, x=1), bag(2, y=1)
        for wrong in ({"x": x}, {"y": y}, {}, {"x": x, "y": bag(3, y=1)}, {"x": x, "y": "y"}, {"x": x, "y": None},
                      {"x": x, "y": y, "xy": x}, {"x": x, "y": y, "": x}, {"x": x, "y": y, "a": x},
                      {"x": x, "y": y, "z": deep(list)}, {"x": x, "y": y, 1: x}, {"x": x, "y": y, None: x},
                      {"x": x, "y": y, ("x",): x}, {"x": x, "y": y, b"x": x}, [("x", x), ("y", y)],
                      {"x": x, "y": y, "z": nothing(7)}):
            self.refuses(NoBags, replaced, bag(2, xy=1), wrong)

    def test_the_dict_is_kept_apart(self):
        bags = {"x": bag(2, y=1)}
        found = replaced(bag(2, x=1), bags)
        bags["x"] = nothing(2)
        self.is_bag(found, 2, (("y", 1),))


class Lengths(Case):

    def test_length(self):
        self.assertEqual([length(nothing(2)), length(one(3)), length(Bag(5, {"": 4}))], [-1, 0, 0])
        for part in some_bags(9):
            self.assertEqual(self.answers(length, part), size(part.words))
        self.assertEqual(length(Bag(2, {"z" * 12: 1})), 12)

    def test_first_top_and_plain(self):
        for part in some_bags(10):
            if part.words:
                words = sorted([word for word, _ in part.words], key=lambda word: (-len(word), word))
                self.assertEqual(self.answers(first, part), words[0])
                level = {word: number for word, number in part.words if len(word) == len(words[0])}
                self.is_bag(self.answers(top, part), part.clock, pairs(part.clock, level))
                found = self.answers(plain, part)
                self.assertEqual(number_at(found, words[0]), 1)
                turn = number_at(part, words[0])
                self.is_bag(part, part.clock, pairs(part.clock, number_times(part.clock, found.words, turn)))

    def test_by_hand(self):
        part = bag(7, yx=3, xy=5, x=1)
        self.assertEqual(first(part), "xy")
        self.is_bag(top(part), 7, (("xy", 5), ("yx", 3)))
        self.is_bag(plain(part), 7, (("xy", 1), ("yx", 2), ("x", 3)))

    def test_the_product_of_plain_bags_is_plain(self):
        for a, b in some_pairs(11):
            if a.words and b.words:
                found = behind(plain(a), plain(b))
                self.assertEqual(plain(found), found)

    def test_is_nothing(self):
        for call in (first, top, plain):
            for clock in CLOCKS:
                self.refuses(IsNothing, call, nothing(clock))

    def test_level_of(self):
        for part in some_bags(12):
            for number in (0, 1, 2, 3, 4, 5, 13, 10 ** 40 - 1):
                level = {word: amount for word, amount in part.words if len(word) == number}
                self.is_bag(self.answers(level_of, part, number), part.clock, pairs(part.clock, level))

    def test_level_of_no_number(self):
        self.refuses_all_but(lambda thing: is_integer(thing) and thing >= 0, NoNumber,
                             lambda thing: level_of(bag(3, x=1), thing))
        self.refuses(NoNumber, level_of, nothing(2), -1)


class Rows(Case):

    def rows(self, seed):
        chance = chance_of(seed)
        for clock in CLOCKS:
            yield [nothing(clock)]
            yield (one(clock), nothing(clock))
            for many in (1, 2, 3, 4):
                row = [random_bag(chance, clock, most=2, many=3) for _ in range(many)]
                yield row
                yield tuple(row + row[:1])

    def test_all_together(self):
        for row in self.rows(13):
            wanted = plus(row[0].clock, *[part.words for part in row])
            self.is_bag(self.answers(all_together, row), row[0].clock, pairs(row[0].clock, wanted))

    def test_all_behind(self):
        for row in self.rows(14):
            self.is_bag(self.answers(all_behind, row), row[0].clock, multiplied(*row))

    def test_in_order(self):
        for row in self.rows(15):
            found = self.answers(in_order, row)
            self.assertIs(type(found), list)
            self.assertTrue(ascending(found))
            for part in found:
                self.assertIn(part, row)
            for part in row:
                self.assertIn(part, found)

    def test_in_order_by_hand(self):
        told = [nothing(3), one(3), bag(3, one=2), bag(3, x=1), bag(3, x=1, one=1), bag(3, x=1, y=1), bag(3, x=2),
                bag(3, y=1), bag(3, xx=1), bag(3, xx=1, x=1), bag(3, xx=1, xy=1), bag(3, yx=2)]
        chance = chance_of(16)
        for _ in range(10):
            mixed = told + told[:4]
            chance.shuffle(mixed)
            self.assertEqual(in_order(mixed), told)
            self.assertEqual(in_order(tuple(mixed)), told)

    def test_many_bags(self):
        row = [bag(2, x=1, one=1)] * 20
        self.assertEqual(all_together(row), nothing(2))
        self.assertEqual(length(all_behind(row)), 20)
        self.assertEqual(in_order(row), row[:1])

    def test_no_row(self):
        for call in (all_together, all_behind, in_order):
            self.refuses_all_but(lambda thing: is_row(thing, 10 ** 5), NoRow, call)
            for wrong in ([], (), {0: one(2)}, [one(2), one(3)], (one(2), one(2), 1), iter([one(2)]), one(2),
                          [one(2), [one(2)]], [deep(list)], [True, one(2)]):
                self.refuses(NoRow, call, wrong)


class Other(unittest.TestCase):

    def test_the_odd_things_are_nested_as_deep_as_the_document_allows(self):
        depth = 0
        thing = deep(list)
        while type(thing) is list:
            depth, thing = depth + 1, thing[0]
        self.assertEqual(depth, 40)
        self.assertGreater(len(odd_things()), 60)


if __name__ == "__main__":
    unittest.main()
