"""All plain bags of a length, counted, and claims about them: point 14."""

import itertools
import unittest

from frontparts.bags import Bag
from frontparts.counting import census, many_unsplittable, refuted
from frontparts.errors import IsNothing, NoAlphabet, NoClock, NoNumber, TooMany
from frontparts.fronts import is_unsplittable
from tests.samples import Plan
from tests.tools import CLOCKS, Case, all_products, all_tables, bag, deep, is_integer, is_plain, nothing, odd_things
from tests.tools import one, pairs, size, words_up_to

# Of these there are 1500 plain bags or fewer; the last one of each clock has the most letters that are let.
LET = [(2, "x", most) for most in range(1, 7)] + [(3, "x", most) for most in range(1, 7)]
LET += [(5, "x", most) for most in range(1, 5)] + [(7, "x", most) for most in range(1, 4)]
LET += [(2, "xy", 1), (2, "xy", 2), (3, "xy", 1), (3, "xy", 2), (5, "xy", 1), (7, "xy", 1)]
FEW = [key for key in LET if key not in ((3, "x", 6), (5, "x", 4), (3, "xy", 2))]


def plain_words(clock, letters, most):
    """The words of all plain bags of this length, ascending."""
    found = [pairs(clock, table) for table in all_tables(clock, letters, most)]
    return sorted(words for words in found if size(words) == most and is_plain(words))


class Census(Case):

    def test_webs_of_all_bags(self):
        for clock, letters, most in FEW:
            wanted = {}
            for words in plain_words(clock, letters, most):
                plan = Plan(Bag(clock, dict(words)))
                key = (len(plan.knots), tuple(plan.befores))
                wanted[key] = wanted.get(key, 0) + 1
            found = self.answers(census, clock, letters, most)
            self.assertEqual(found, wanted)
            self.assertIs(type(found), dict)
            for (many, befores), number in found.items():
                self.assertEqual((type(many), type(befores), type(number)), (int, tuple, int))

    def test_unsplittable_ones_are_no_products(self):
        for clock, letters, most in FEW:
            splits = all_products(clock, letters, most)
            words = plain_words(clock, letters, most)
            found = self.answers(many_unsplittable, clock, letters, most)
            self.assertEqual((found, type(found)), (len([told for told in words if told not in splits]), int))

    def test_as_many_as_there_are(self):
        for clock, letters, most in LET:
            long = len(letters) ** most
            short = len(words_up_to(letters, most - 1))
            self.assertEqual(sum(census(clock, letters, most).values()), (clock ** long - 1) // (clock - 1) * clock ** short)

    def test_by_hand(self):
        for clock in CLOCKS:
            self.assertEqual(census(clock, "x", 1), {(1, ()): clock})
            self.assertEqual(census(clock, "xy", 1), {(1, ()): (clock + 1) * clock})
            self.assertEqual(census(clock, "x", 2), {
                (1, ()): clock * (clock - 1) // 2, (2, ()): clock * (clock - 1) // 2, (2, ((0, 1),)): clock})
        self.assertEqual([many_unsplittable(2, "x", most) for most in range(1, 7)], [2, 1, 2, 3, 6, 9])
        self.assertEqual(many_unsplittable(3, "x", 6), 116)
        self.assertEqual(many_unsplittable(2, "xy", 2), 87)

    def test_the_dict_is_new(self):
        found = census(2, "x", 2)
        found[(1, ())] = 100
        del found[(2, ())]
        self.assertEqual(census(2, "x", 2), {(1, ()): 1, (2, ()): 1, (2, ((0, 1),)): 2})
        self.assertEqual(many_unsplittable(2, "x", 2), 1)


class Refuted(Case):

    def test_what_is_right_is_not_refuted(self):
        for clock, letters, most in FEW:
            self.assertIsNone(self.answers(refuted, is_unsplittable, clock, letters, most))

    def test_all_bags_are_asked_of_in_order(self):
        for clock, letters, most in ((2, "xy", 2), (3, "x", 3), (7, "xy", 1)):
            asked = []
            self.assertIsNone(refuted(lambda part: asked.append(part) or is_unsplittable(part), clock, letters, most))
            wanted = [words for many in range(most + 1) for words in plain_words(clock, letters, many)]
            self.assertEqual([part.words for part in asked], wanted)
            self.assertEqual({(type(part), part.clock) for part in asked}, {(Bag, clock)})
            self.assertEqual(wanted[0], (("", 1),))

    def test_the_first_one_of_which_it_is_wrong(self):
        for clock, letters, most in ((2, "xy", 2), (3, "x", 3), (5, "x", 3)):
            words = [words for many in range(most + 1) for words in plain_words(clock, letters, many)]
            for at in range(0, len(words), 5):
                wrong = words[at::7]
                asked = []
                found = refuted(lambda part: asked.append(part) or (is_unsplittable(part) != (part.words in wrong)),
                                clock, letters, most)
                self.is_bag(found, clock, words[at])
                self.assertEqual(len(asked), at + 1)

    def test_by_hand(self):
        for clock in CLOCKS:
            self.is_bag(refuted(lambda part: True, clock, "x", 1), clock, (("", 1),))
            self.is_bag(refuted(lambda part: False, clock, "xy", 1), clock, (("x", 1),))
            self.assertIsNone(refuted(lambda part: size(part.words) == 1, clock, "xy", 1))
        self.is_bag(refuted(lambda part: size(part.words) == 1, 2, "x", 4), 2, (("xx", 1), ("x", 1), ("", 1)))
        self.is_bag(refuted(lambda part: size(part.words) > 0, 3, "x", 2), 3, (("xx", 1),))

    def test_what_is_no_flag_is_not_right(self):
        for thing in odd_things():
            if type(thing) is not bool:
                self.is_bag(refuted(lambda part: thing, 2, "x", 2), 2, (("", 1),))
                found = refuted(lambda part: thing if part.words == (("x", 1),) else is_unsplittable(part), 2, "x", 2)
                self.is_bag(found, 2, (("x", 1),))
        self.is_bag(refuted(lambda part: int(is_unsplittable(part)), 2, "x", 2), 2, (("", 1),))

    def test_an_error_of_the_claim_goes_on(self):
        for error in (KeyError, ValueError, RuntimeError, ZeroDivisionError, NoNumber, IsNothing):
            def claim(part):
                if part.words == (("xx", 1),):
                    raise error()
                return is_unsplittable(part)
            with self.assertRaises(error) as caught:
                refuted(claim, 3, "x", 3)
            self.assertIs(type(caught.exception), error)
            self.assertIsNone(refuted(claim, 3, "x", 1))
            # What is refuted before is told, and no more is asked.
            self.assertIsNotNone(refuted(lambda part: claim(part) and part.words != (("x", 1), ("", 2)), 3, "x", 3))


class Refusing(Case):

    def calls(self):
        def claim(part):
            raise AssertionError("asked of a bag")
        return (census, many_unsplittable, lambda *arguments: refuted(claim, *arguments))

    def test_no_clock(self):
        for call in self.calls():
            for thing in odd_things():
                if not (is_integer(thing) and thing in CLOCKS):
                    self.refuses(NoClock, call, thing, "x", 1)
                    self.refuses(NoClock, call, thing, None, None)
            for thing in (0, 1, 4, 6, 8, 9, 11, -2, True, "2", b"2", (2,), nothing(2), deep(list)):
                self.refuses(NoClock, call, thing, "xyz", 7)

    def test_no_alphabet(self):
        for call in self.calls():
            for thing in odd_things():
                if not (type(thing) is str and thing in ("x", "xy")):
                    self.refuses(NoAlphabet, call, 2, thing, 1)
                    self.refuses(NoAlphabet, call, 7, thing, None)
            for thing in ("", "y", "z", "yx", "xz", "xyz", "xx", "x ", ["x"], ("x", "y"), {"x": 1}, b"x", deep(tuple)):
                self.refuses(NoAlphabet, call, 3, thing, 7)

    def test_no_number(self):
        for call in self.calls():
            for thing in odd_things():
                if not (is_integer(thing) and 1 <= thing <= 6):
                    self.refuses(NoNumber, call, 2, "x", thing)
                    self.refuses(NoNumber, call, 7, "xy", thing)

    def test_too_many(self):
        for clock, letters, most in itertools.product(CLOCKS, ("x", "xy"), range(1, 7)):
            if (clock, letters, most) not in LET:
                for call in self.calls():
                    self.assertEqual(self.refuses(TooMany, call, clock, letters, most).most, 1500)
        self.assertEqual(sum(census(3, "xy", 2).values()), 1080)
        self.assertEqual(refuted(lambda part: part != bag(3, yy=1), 3, "xy", 2), one(3))


if __name__ == "__main__":
    unittest.main()
