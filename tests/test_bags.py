"""Words and bags: points 1.1 and, of the general rules, 0.2 to 0.4."""

import unittest

from frontparts.bags import Bag
from frontparts.errors import BadBag
from tests.tools import CLOCKS, Case, bag, chance_of, deep, is_integer, is_word, nothing, odd_things, pairs
from tests.tools import random_table, words_up_to


class Making(Case):

    def test_attributes(self):
        made = Bag(5, {"y": 4, "": 2, "xy": 1, "x": 3, "zz": 1})
        self.is_bag(made, 5, (("xy", 1), ("zz", 1), ("x", 3), ("y", 4), ("", 2)))

    def test_the_longer_word_is_ahead_then_the_lesser_one(self):
        words = words_up_to("xyz", 3)
        made = Bag(2, {word: 1 for word in words})
        self.assertEqual([word for word, _ in made.words], sorted(words, key=lambda word: (-len(word), word)))

    def test_words_are_ordered_however_the_dict_is(self):
        chance = chance_of(11)
        for clock in CLOCKS:
            for _ in range(20):
                table = random_table(chance, clock, "xyz", 12, 20)
                items = list(table.items())
                chance.shuffle(items)
                self.is_bag(Bag(clock, dict(items)), clock, pairs(clock, table))

    def test_nothing_and_numbers_alone(self):
        for clock in CLOCKS:
            self.is_bag(Bag(clock, {}), clock, ())
            for number in range(1, clock):
                self.is_bag(Bag(clock, {"": number}), clock, (("", number),))

    def test_300_words_of_12_letters(self):
        words = [word for word in words_up_to("xy", 12) if len(word) == 12]
        self.assertEqual(len(Bag(7, {word: 6 for word in words[:300]}).words), 300)

    def test_attributes_are_set_on_each_object(self):
        self.assertEqual(sorted(vars(Bag(2, {}))), ["clock", "words"])

    def test_a_bag_does_not_change_with_its_dict(self):
        table = {"x": 1, "": 2}
        made = Bag(3, table)
        table["x"] = 2
        table["y"] = 1
        del table[""]
        self.is_bag(made, 3, (("x", 1), ("", 2)))

    def test_the_dict_is_not_changed(self):
        table = {"x": 1, "xyz": 2, "": 1}
        Bag(3, table)
        self.assertEqual(list(table.items()), [("x", 1), ("xyz", 2), ("", 1)])


class Refusing(Case):

    def part(self, *arguments):
        return self.refuses(BadBag, Bag, *arguments).part

    def test_clocks(self):
        for thing in odd_things():
            if is_integer(thing) and thing in CLOCKS:
                Bag(thing, {"x": 1})
            else:
                self.assertEqual(self.part(thing, {"x": 1}), "clock")

    def test_words_that_are_no_dict_of_words_and_numbers(self):
        def fits(thing):
            return type(thing) is dict and all(
                is_word(word) and len(word) <= 12 and is_integer(number) and 0 < number < 2
                for word, number in thing.items())
        for thing in odd_things():
            if fits(thing):
                Bag(2, thing)
            else:
                self.assertEqual(self.part(2, thing), "words")

    def test_keys(self):
        keys = ["X", "a", "x y", " ", "xyz\n", "x" * 13, "z" * 20000, 0, 1, None, b"", b"x", ("x",), (), deep(tuple),
                frozenset(), Bag, len]
        for key in keys:
            self.assertEqual(self.part(7, {"x": 1, key: 1}), "words")

    def test_numbers(self):
        for clock in CLOCKS:
            for number in (0, clock, -1, clock + 1, 1 - clock, 10 ** 40 - 1, True, False, None, "1", [1], (1,), {},
                           deep(list), nothing(clock), b"1"):
                self.assertEqual(self.part(clock, {"x": 1, "y": number}), "words")
            self.assertEqual(len(Bag(clock, {"x": 1, "y": clock - 1}).words), 2)

    def test_301_words(self):
        words = words_up_to("xyz", 5)[:301]
        self.assertEqual(self.part(2, {word: 1 for word in words}), "words")
        Bag(2, {word: 1 for word in words[1:]})

    def test_the_clock_is_judged_first(self):
        self.assertEqual(self.part(4, None), "clock")
        self.assertEqual(self.part(True, {"x": 0}), "clock")


class Equality(Case):

    def test_equal_just_if_clock_and_words_are(self):
        self.assertEqual(bag(3, x=1, y=2), Bag(3, {"y": 2, "x": 1}))
        self.assertFalse(bag(3, x=1) != bag(3, x=1))
        for other in (bag(5, x=1, y=2), bag(3, x=1, y=1), bag(3, x=1), bag(3, x=1, z=2), bag(3, x=1, y=2, one=1)):
            self.assertNotEqual(bag(3, x=1, y=2), other)
            self.assertFalse(bag(3, x=1, y=2) == other)
        self.assertNotEqual(nothing(2), nothing(3))

    def test_equal_to_nothing_of_another_kind(self):
        class Likeness:
            clock = 3
            words = (("x", 1),)

        for thing in [Likeness(), (("x", 1),), (3, (("x", 1),)), {"x": 1}]:
            self.assertFalse(bag(3, x=1) == thing)
            self.assertTrue(bag(3, x=1) != thing)
        for thing in odd_things():
            if type(thing) is not Bag:
                self.assertFalse(bag(2, x=1) == thing)
                self.assertFalse(nothing(2) == thing)


if __name__ == "__main__":
    unittest.main()
