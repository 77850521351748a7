"""Widest and deepest rows of knots, and covers: point 5.7."""

import itertools
import unittest

from frontparts.bags import Bag, times
from frontparts.webs import befores, knots
from frontparts.widths import cover, deepest, is_cover, widest
from tests.samples import CHAIN, F, FLAT, MANY, MOST, WAYS_300, Plan, lines, many_webs, plain_examples
from tests.tools import CLOCKS, Case, bag, chance_of, deep, odd_things, one


def ordinary(seed):
    return [*plain_examples(), *many_webs(seed, 24), *many_webs(seed + 1, 30, knots=7, most=10, least=3)]


def longest(rows):
    """The least of the longest tuples."""
    return min(rows, key=lambda row: (-len(row), row))


def subsets(many):
    return [row for size in range(many + 1) for row in itertools.combinations(range(many), size)]


def covers(many, fits, thing):
    """Whether a thing is a cover, by the words of the document."""
    return (type(thing) is tuple and all(type(row) is tuple and len(row) > 0 for row in thing)
            and all(type(knot) is int for row in thing for knot in row)
            and sorted(knot for row in thing for knot in row) == list(range(many))
            and all(pair in fits for row in thing for pair in zip(row, row[1:])))


class Rows(Case):

    def test_against_all_rows_of_knots(self):
        for part in ordinary(901):
            plan = Plan(part)
            rows = subsets(len(plan.knots))
            apart = [row for row in rows if not any(pair in plan.befores for pair in itertools.combinations(row, 2))]
            chains = [row for row in rows if all(pair in plan.befores for pair in zip(row, row[1:]))]
            for call, wanted in ((widest, longest(apart)), (deepest, longest(chains))):
                found = self.answers(call, part)
                self.assertEqual(found, wanted)
                self.assertIs(type(found), tuple)
                self.assertTrue(all(type(knot) is int for knot in found))

    def test_by_hand(self):
        self.assertEqual((widest(F), deepest(F)), ((0, 2), (0, 1)))
        self.assertEqual((widest(FLAT), deepest(FLAT)), ((0, 1, 2), (0,)))
        self.assertEqual((widest(CHAIN), deepest(times(CHAIN, 2))), ((0,), (0, 1, 2, 3)))
        self.assertEqual((widest(bag(7, xyx=2, y=1)), deepest(bag(7, xyx=2, y=1))), ((0,), (0,)))
        # Two rows of two, the lines 0 and 1 and their squares 2 and 3.
        part = lines(5, (1, 0, 0, 1))
        self.assertEqual(befores(part), [(0, 2), (1, 3)])
        self.assertEqual((widest(part), deepest(part)), ((0, 1), (0, 2)))

    def test_numbers_alone(self):
        for clock in CLOCKS:
            for number in range(1, clock):
                part = bag(clock, one=number)
                self.assertEqual((widest(part), deepest(part), cover(part)), ((), (), ()))
                self.assertEqual(self.judges_oddly(is_cover, part), [()])

    def test_12_letters(self):
        self.assertEqual((widest(MOST), deepest(MOST)), ((0, 1, 2, 3, 4, 5, 6), (0, 7)))
        self.assertEqual(len(cover(MOST)), 7)
        self.assertEqual((widest(MANY), len(deepest(MANY)), len(cover(MANY))), ((0, 1, 2, 3, 4), 3, 5))
        self.assertEqual((len(widest(WAYS_300)), len(deepest(WAYS_300))), (3, 2 + 1 + 3))
        part = Bag(7, {"xyz" * 4: 1})
        self.assertEqual((widest(part), deepest(part), cover(part)), ((0,), tuple(range(12)), (tuple(range(12)),)))


class Covers(Case):

    def test_as_few_as_can_be(self):
        for part in [*ordinary(911), WAYS_300, MANY]:
            fits = befores(part)
            found = self.answers(cover, part)
            self.assertTrue(covers(len(knots(part)), fits, found))
            self.assertIs(is_cover(part, found), True)
            # No fewer could cover the widest row, whose knots stand in one each.
            self.assertEqual(len(found), len(widest(part)))

    def test_webs_in_which_the_first_that_fits_is_taken_in_vain(self):
        for words in (("xxxxyxy", "xxxyxy", "xxxxy", "xxxy"), ("xxyyxyx", "xyyxyx", "xxyyx", "xyyx")):
            part = Bag(2, {word: 1 for word in words})
            self.assertEqual((len(knots(part)), len(widest(part)), len(cover(part))), (6, 2, 2))
            self.assertTrue(covers(6, befores(part), cover(part)))

    def test_the_fewest_of_all_covers(self):
        for part in many_webs(912, 10, knots=4, least=2):
            plan = Plan(part)
            many = len(plan.knots)
            chains = [row for row in subsets(many)[1:] if all(pair in plan.befores for pair in zip(row, row[1:]))]
            fewest = min(size for size in range(1, many + 1) for rows in itertools.combinations(chains, size)
                         if sorted(knot for row in rows for knot in row) == list(range(many)))
            self.assertEqual(len(cover(part)), fewest)

    def test_right_covers_of_few_and_of_many(self):
        self.assertIs(is_cover(F, ((0, 1), (2,))), True)
        self.assertIs(is_cover(F, ((2,), (0, 1))), True)
        self.assertIs(is_cover(F, ((2,), (1,), (0,))), True)
        self.assertIs(is_cover(CHAIN, ((0, 3), (1, 2))), True)
        self.assertIs(is_cover(CHAIN, ((0, 1, 2, 3),)), True)
        for part in ordinary(913):
            self.assertIs(is_cover(part, tuple((knot,) for knot in range(len(knots(part))))), True)

    def test_right_covers_with_one_thing_changed(self):
        chance = chance_of(914)
        there = 0
        for part in [F, FLAT, CHAIN, *many_webs(915, 12, least=2)]:
            fits, many, right = befores(part), len(knots(part)), cover(part)
            for _ in range(25):
                rows = [list(row) for row in right]
                row = chance.choice(rows)
                turn = chance.randint(0, 4)
                if turn == 0:
                    row[chance.randrange(len(row))] = chance.randint(-1, many)
                elif turn == 1:
                    row.insert(chance.randint(0, len(row)), chance.randint(0, many - 1))
                elif turn == 2:
                    row.pop(chance.randrange(len(row)))
                elif turn == 3:
                    chance.shuffle(row)
                else:
                    at = chance.randint(0, len(row))
                    rows.append(row[at:])
                    del row[at:]
                thing = tuple(tuple(row) for row in rows)
                self.assertIs(is_cover(part, thing), covers(many, fits, thing))
                there += covers(many, fits, thing)
        self.assertGreater(there, 20)

    def test_things_of_other_kinds(self):
        for part in (F, FLAT, CHAIN, bag(2, x=1)):
            self.assertEqual(self.judges_oddly(is_cover, part), [])
        for wrong in ([(0, 1), (2,)], ([0, 1], (2,)), ((0, 1), [2]), ((False, 1), (2,)), ((0, True), (2,)), ((0, 1), 2),
                      ((0, 1), (2,), ()), ((), (0, 1), (2,)), ((0, 1), (2, None)), ((0, 1), ("2",)), (0, 1, 2), ((0, 1, 2),),
                      ((1, 0), (2,)), ((0, 1), (2,), (2,)), ((0, 1), (1,), (2,)), ((0, 1),), ((0, 1), (3,)), ((0, 1), (-1,)),
                      ((0, 1), ((2,),)), {0: (0, 1), 1: (2,)}, ((0, 1), deep(tuple, 39)), ((0, 1), (deep(list, 38),)),
                      (((0, 1), (2,)),), ((0, 1), (2,), None), ((0, 10 ** 40), (2,)), None, "", ((0,),) * 20000,
                      (tuple(range(20000)),), deep(dict), (), one(2)):
            self.assertIs(is_cover(F, wrong), False)
        self.assertIs(is_cover(bag(2, x=1), ((0,),)), True)
        for thing in odd_things():
            self.assertIs(is_cover(F, ((0, 1), thing)), False)
            if type(thing) is not int or thing != 2:
                self.assertIs(is_cover(F, ((0, 1), (thing,))), False)


class Refusing(Case):

    def test_the_errors_of_front_parts_come_first(self):
        for call in (widest, deepest, cover):
            self.splits_first(call)
        for thing in (None, (), ((0,),), deep(tuple)):
            self.splits_first(is_cover, thing)


if __name__ == "__main__":
    unittest.main()
