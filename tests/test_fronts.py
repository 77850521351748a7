"""Front parts, back parts and unsplittable bags: point 3.2."""

import unittest

from frontparts.bags import Bag, all_behind, behind, in_order, less, plain, times, together
from frontparts.errors import IsNothing, TooLong
from frontparts.fronts import back_parts, front_parts, is_front_part, is_unsplittable
from tests.samples import line
from tests.tools import CLOCKS, Case, all_products, all_tables, ascending, bag, chance_of, multiplied, nothing, one
from tests.tools import pairs, random_bag, random_table, size, words_up_to

# Clock, letters and length of bags that are few enough to search through all candidates for their parts.
SMALL = [(2, "x", 5), (2, "xy", 2), (2, "xyz", 2), (3, "x", 4), (3, "xy", 2), (5, "x", 3), (7, "x", 3)]


def plain_tables(clock, letters, most):
    """The plain tables of just this length."""
    for table in all_tables(clock, letters, most):
        words = pairs(clock, table)
        if size(words) == most and words[0][1] == 1:
            yield words


class SmallBags(Case):

    def check_all(self, clock, letters, most):
        found = all_products(clock, letters, most)
        whole = ((("", 1),),)
        for words in plain_tables(clock, letters, most):
            part = Bag(clock, dict(words))
            wanted_fronts = {front for front, _ in found.get(words, [])} | {words, *whole}
            wanted_backs = {back for _, back in found.get(words, [])} | {words, *whole}
            fronts = front_parts(part)
            backs = back_parts(part)
            self.assertEqual({front.words for front in fronts}, wanted_fronts)
            self.assertEqual({back.words for back in backs}, wanted_backs)
            self.assertTrue(ascending(fronts))
            self.assertTrue(ascending(backs))
            self.assertIs(is_unsplittable(part), words not in found)

    def test_against_a_search_through_all_candidates(self):
        for clock, letters, most in SMALL:
            self.check_all(clock, letters, most)

    def test_bags_of_three_letters_by_the_clock_2(self):
        found = all_products(2, "xy", 3)
        self.assertGreater(len(found), 1000)
        chance = chance_of(31)
        for words in chance.sample(sorted(found), 400):
            fronts = front_parts(Bag(2, dict(words)))
            self.assertEqual({front.words for front in fronts},
                             {front for front, _ in found[words]} | {words, (("", 1),)})
        for _ in range(200):
            words = pairs(2, {word: chance.randint(0, 1) for word in words_up_to("xy", 3)})
            if size(words) == 3:
                self.assertIs(is_unsplittable(Bag(2, dict(words))), words not in found)

    def test_number_in_front_makes_no_difference(self):
        for words in plain_tables(3, "xy", 1):
            part = Bag(3, dict(words))
            for other in plain_tables(3, "xy", 1):
                both = behind(part, Bag(3, dict(other)))
                self.assertEqual(front_parts(times(both, 2)), front_parts(both))
                self.assertEqual(back_parts(times(both, 2)), back_parts(both))


class LargerBags(Case):

    def check(self, part, many=None):
        fronts = self.answers(front_parts, part)
        backs = self.answers(back_parts, part)
        self.assertEqual(len(fronts), len(backs))
        self.assertTrue(ascending(fronts))
        self.assertTrue(ascending(backs))
        self.assertEqual(fronts[0], one(part.clock))
        self.assertEqual(fronts[-1], plain(part))
        self.assertEqual(backs[-1], plain(part))
        for front in fronts:
            self.assertEqual(front.words[0][1], 1)
            self.assertIs(is_front_part(part, front), True)
        if many is not None:
            self.assertEqual(len(fronts), many)
        return fronts

    def test_each_product_has_its_fronts_and_backs_as_parts(self):
        chance = chance_of(32)
        for clock in CLOCKS:
            for _ in range(15):
                row = [random_bag(chance, clock, "xyz", 2, 3) for _ in range(4)]
                fronts = self.check(all_behind(row))
                backs = back_parts(all_behind(row))
                for many in range(1, 4):
                    self.assertIn(plain(all_behind(row[:many])), fronts)
                    self.assertIn(plain(all_behind(row[many:])), backs)

    def test_one_letter_as_divisors_of_numbers_in_a_row(self):
        # A product of unlike lines has a front part for each selection of them.
        for clock, many in ((3, 3), (5, 5), (7, 7)):
            row = [line(clock, number) for number in range(many)]
            self.check(all_behind(row), 2 ** many)
        for clock in CLOCKS:
            self.check(Bag(clock, {"x" * 12: 1}), 13)
            self.check(all_behind([line(clock, 1)] * 12), 13)

    def test_the_most_parts_that_bags_of_one_letter_have(self):
        row = [line(7, number) for number in range(7)] + [line(7, number) for number in range(5)]
        self.check(all_behind(row), 3 ** 5 * 2 ** 2)

    def test_lines_of_two_letters(self):
        row = [bag(7, x=1, y=6, one=number) for number in range(1, 7)] + [bag(7, x=1, y=6)]
        self.check(all_behind(row), 2 ** 7)
        row = [bag(5, x=1, y=2, z=4, one=number) for number in range(1, 5)] * 2
        self.check(all_behind(row), 3 ** 4)

    def test_first_words_that_overlap(self):
        # Here a front before the first word of a back gives, in part, what stands behind the first word of a front.
        chance = chance_of(34)
        for clock in CLOCKS:
            tops = [({"xy": 1, "zx": clock - 1}, {"xx": 1, "yx": 1}), ({"xz": 1, "yx": 1}, {"xy": 1, "zy": 1}),
                    ({"xxy": 1, "zxx": 1}, {"xx": 1, "yx": 1}), ({"xy": 1, "zx": 1}, {"xxz": 1, "yxz": 1})]
            for front, back in tops:
                for _ in range(10):
                    one_bag = Bag(clock, {**random_table(chance, clock, "xyz", 1, 3), **front})
                    other = Bag(clock, {**random_table(chance, clock, "xyz", 1, 3), **back})
                    fronts = self.check(behind(one_bag, other))
                    self.assertIn(plain(one_bag), fronts)
                    more = self.check(all_behind([other, one_bag, other]))
                    self.assertIn(plain(behind(other, one_bag)), more)

    def test_letters_that_stand_together(self):
        row = [line(7, number, "xy") for number in range(1, 7)]
        self.check(all_behind(row), 2 ** 6)
        # x (y x and a number) is (x y and the number) x.
        for clock in CLOCKS:
            found = self.check(behind(bag(clock, x=1), line(clock, 1, "yx")), 4)
            self.assertEqual([front.words for front in found],
                             [(("", 1),), (("x", 1),), (("xy", 1), ("", 1)), (("xyx", 1), ("x", 1))])

    def test_bags_with_long_runs_that_cannot_be_split(self):
        for tail in ({"y": 1}, {"xy": 1, "": 1}, {"yxxxxxy": 2}):
            part = Bag(7, {"x" * 12: 1, **tail})
            self.check(part, 2)
            self.assertIs(is_unsplittable(part), True)
        twisted = behind(Bag(7, {"x" * 10: 1}), bag(7, xy=1, yx=6))
        self.assertEqual(len(front_parts(twisted)), 12)
        self.check(together(twisted, one(7)), 2)
        front = bag(7, xy=1, yx=6)
        self.assertIn(front, self.check(behind(front, Bag(7, {"x" * 9: 1, "": 2}))))

    def test_many_words(self):
        chance = chance_of(33)
        for clock in CLOCKS:
            self.check(random_bag(chance, clock, "xyz", 12, 300))
            row = [random_bag(chance, clock, "xyz", 6, 30) for _ in range(2)]
            fronts = self.check(all_behind(row))
            self.assertIn(plain(row[0]), fronts)
        words = [word for word in words_up_to("xy", 12) if len(word) == 12]
        full = Bag(2, {word: 1 for word in words[:300]})
        self.assertEqual(len(full.words), 300)
        self.check(full)

    def test_numbers_alone(self):
        for clock in CLOCKS:
            for number in range(1, clock):
                self.assertEqual(front_parts(Bag(clock, {"": number})), [one(clock)])
                self.assertEqual(back_parts(Bag(clock, {"": number})), [one(clock)])

    def test_common_parts_and_continuations_of_front_parts_are_there(self):
        part = all_behind([line(5, 1), bag(5, x=1, y=2), line(5, 2), bag(5, xy=1, one=3), line(5, 1)])
        fronts = front_parts(part)
        for a in fronts:
            for b in fronts:
                within = [front for front in fronts if is_front_part(a, front) and is_front_part(b, front)]
                around = [front for front in fronts if is_front_part(front, a) and is_front_part(front, b)]
                self.assertTrue(all(is_front_part(within[-1], front) for front in within))
                self.assertTrue(all(is_front_part(front, around[0]) for front in around))


class FrontPart(Case):

    def test_all_bags_by_a_search(self):
        found = all_products(3, "xy", 2)
        for words in list(plain_tables(3, "xy", 2))[::7]:
            part = times(Bag(3, dict(words)), 2)
            right = {front for front, _ in found.get(words, [])} | {words, (("", 1),)}
            for most in (0, 1, 2):
                for other in list(plain_tables(3, "xy", most))[:60]:
                    self.assertIs(is_front_part(part, Bag(3, dict(other))), other in right)

    def test_what_is_none(self):
        part = behind(bag(3, x=1, one=1), bag(3, y=2))
        self.assertIs(is_front_part(part, bag(3, x=1, one=1)), True)
        self.assertIs(is_front_part(part, one(3)), True)
        for wrong in (bag(3, x=2, one=2), bag(3, one=2), nothing(3), bag(2, x=1, one=1), one(2), bag(3, x=1),
                      bag(3, y=1), None, "x", {"x": 1, "": 1}, (("x", 1), ("", 1)), [one(3)], part):
            self.assertIs(is_front_part(part, wrong), False)
        self.assertIs(is_front_part(part, plain(part)), True)
        self.assertEqual(self.judges_oddly(is_front_part, bag(2, x=1)), [one(2), bag(2, x=1)])
        self.assertEqual(self.judges_oddly(is_front_part, bag(7, x=1)), [])

    def test_of_any_length(self):
        front = Bag(2, {"x" * 12: 1, "y": 1})
        part = behind(front, Bag(2, {"y" * 12: 1, "x": 1}))
        self.assertIs(is_front_part(part, front), True)
        self.assertIs(is_front_part(part, part), True)
        self.assertIs(is_front_part(part, bag(2, x=1)), False)

    def test_is_nothing(self):
        for thing in (nothing(2), one(2), None, 3):
            self.refuses(IsNothing, is_front_part, nothing(2), thing)


class Unsplittable(Case):

    def test_flags(self):
        self.assertIs(is_unsplittable(bag(5, x=3, y=1, one=2)), True)
        self.assertIs(is_unsplittable(bag(2, xx=1, one=1)), False)
        self.assertIs(is_unsplittable(bag(2, xx=1, x=1, one=1)), True)
        self.assertIs(is_unsplittable(bag(3, xy=1)), False)
        self.assertIs(is_unsplittable(bag(3, xy=1, yx=2)), True)

    def test_what_is_no_bag_or_too_short(self):
        for thing in (nothing(2), one(2), bag(3, one=2)):
            self.assertIs(is_unsplittable(thing), False)
        self.assertEqual(self.judges_oddly(is_unsplittable), [
            bag(2, x=1), bag(3, x=2), bag(5, xy=1, one=3), bag(7, xx=1, y=6)])


class Refusing(Case):

    def test_12_and_13_letters(self):
        part = Bag(5, {"xyzxyzxyzxyx": 1, "": 2})
        self.assertEqual(front_parts(part), [one(5), part])
        self.assertEqual(back_parts(part), [one(5), part])
        self.assertIs(is_unsplittable(part), True)
        long = behind(part, bag(5, y=1))
        for call in (front_parts, back_parts, is_unsplittable):
            self.assertEqual(self.refuses(TooLong, call, long).most, 12)
            self.assertEqual(self.refuses(TooLong, call, behind(long, long)).most, 12)
            self.assertEqual(self.refuses(TooLong, call, behind(bag(2, x=1), Bag(2, {"x" * 12: 1}))).most, 12)

    def test_is_nothing(self):
        for clock in CLOCKS:
            self.refuses(IsNothing, front_parts, nothing(clock))
            self.refuses(IsNothing, back_parts, nothing(clock))

    def test_lists_are_in_order(self):
        part = less(bag(7, xyx=1, x=2), nothing(7))
        self.assertEqual(front_parts(part), in_order(front_parts(part)))
        self.assertEqual(multiplied(front_parts(part)[1], back_parts(part)[2]), plain(part).words)


if __name__ == "__main__":
    unittest.main()
