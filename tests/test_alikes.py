"""Alike bags: point 6.1."""

import itertools
import unittest

from frontparts.alikes import alike, apart_from, is_alike
from frontparts.bags import Bag, all_behind, behind, mirrored, times, together
from frontparts.errors import IsNothing, TooLong, UnlikeClocks
from frontparts.exchanges import factors_at
from frontparts.fronts import front_parts
from frontparts.rows import rest_behind
from tests.samples import F, Plan, line, lines, many_webs, random_lines
from tests.tools import CLOCKS, Case, all_tables, bag, chance_of, deep, divides, multiplied, nothing, odd_things, one
from tests.tools import random_bag, size


def shows(a, b, x, y):
    """Whether a pair shows that two bags are alike, by the words of the document."""
    if size(a.words) != size(b.words) or size(a.words) < 1 or not x.words or not y.words:
        return False
    if multiplied(a, y) != multiplied(x, b):
        return False
    return not (any(divides(front, x) for front in front_parts(a)[1:])
                or any(divides(back, mirrored(y)) for back in front_parts(mirrored(b))[1:]))


def there_is_one(a, b, letters):
    """Whether any bag with fewer letters shows, with what it must have beside it, that two bags are alike."""
    for table in all_tables(a.clock, letters, size(a.words) - 1):
        if table:
            x = Bag(a.clock, table)
            y = rest_behind(a, behind(x, b))
            if y is not None and shows(a, b, x, y):
                return True
    return False


class Alike(Case):

    def check(self, a, b, wanted=None):
        """Checks what is told of two bags; whether they are alike."""
        found = self.answers(alike, a, b)
        if found is not None:
            x, y = found
            self.assertEqual((type(found), len(found), type(x), type(y)), (tuple, 2, Bag, Bag))
            self.assertTrue(shows(a, b, x, y))
            self.assertLess(size(x.words), size(a.words))
            self.assertIs(self.answers(is_alike, a, b, found), True)
        if wanted is not None:
            self.assertIs(found is not None, wanted, (a.clock, a.words, b.words))
        return found is not None

    def test_against_a_search(self):
        chance = chance_of(1101)
        for clock, letters, most, many in ((2, "xy", 1, 60), (3, "xy", 1, 60), (2, "xy", 2, 200), (2, "x", 3, 100),
                                           (3, "xy", 2, 40), (3, "x", 3, 40), (5, "x", 2, 40)):
            bags = [Bag(clock, table) for table in all_tables(clock, letters, most)]
            bags = [part for part in bags if size(part.words) == most]
            splits = [part for part in bags if len(front_parts(part)) > 2]
            alike_ones = 0
            for turn in range(many):
                a, b = [chance.choice(splits if turn % 2 and splits else bags) for _ in range(2)]
                alike_ones += self.check(a, b, there_is_one(a, b, letters))
            for _ in range(10):
                part = chance.choice(bags)
                alike_ones += self.check(part, times(part, -1), True)
            self.assertGreater(alike_ones, 9)

    def test_products_of_two_lines_in_all_orders(self):
        lines_ = [line(2, 0), line(2, 1), line(2, 0, "y"), line(2, 1, "xy"), line(2, 1, "yx")]
        products = [behind(a, b) for a, b in itertools.product(lines_, repeat=2)]
        alike_ones = 0
        for a, b in itertools.product(products, repeat=2):
            if size(a.words) == size(b.words) < 4:
                alike_ones += self.check(a, b, there_is_one(a, b, "xy"))
        self.assertGreater(alike_ones, 30)

    def test_by_hand(self):
        for clock in CLOCKS:
            x, y = bag(clock, x=1), bag(clock, y=1)
            self.check(line(clock, 1, "xy"), line(clock, 1, "yx"), True)
            self.check(line(clock, 1, "xy"), line(clock, 2, "yx"), False)
            self.check(x, y, False)
            self.check(x, line(clock, 1), False)
            self.check(behind(x, y), behind(y, x), False)
            self.check(bag(clock, xx=1), lines(clock, (0, 1)), False)
            self.check(lines(clock, (0, 1)), times(lines(clock, (1, 0)), -1), True)
            self.check(bag(clock, xyx=1, x=1), behind(x, line(clock, 1, "yx")), True)
            # With z in front, or behind, what carries x y + 1 and y x + 1 to one another has no room.
            z = bag(clock, z=1)
            self.check(behind(z, line(clock, 1, "xy")), behind(z, line(clock, 1, "yx")), False)
            self.check(behind(line(clock, 1, "xy"), z), behind(line(clock, 1, "yx"), z), False)
            self.check(behind(line(clock, 1, "xy"), z), behind(z, line(clock, 1, "xy")), False)

    def test_all_bags_that_stand_for_a_knot_are_alike(self):
        many = 0
        for part in [F, *many_webs(1102, 24, least=3)]:
            for knot in range(len(Plan(part).knots)):
                bags = factors_at(part, knot)
                many += len(bags) > 1
                for a, b in itertools.product(bags[:3], repeat=2):
                    self.check(a, b, True)
        self.assertGreater(many, 12)

    def test_to_and_fro_and_on_and_on(self):
        chance = chance_of(1103)
        for turn in range(12):
            clock = CLOCKS[turn % 4]
            bags = [random_lines(chance, clock, 2) for _ in range(3)]
            bags += [times(part, -1) for part in bags[:1]]
            bags += [factor for part in bags[:2] for knot in range(len(Plan(part).knots))
                     for factor in factors_at(part, knot)]
            for a in bags:
                row = [other for other in bags if self.check(a, other)]
                self.assertIn(a, row)
                for b, c in itertools.product(row[:4], repeat=2):
                    self.check(b, c, True)

    def test_many_carriers(self):
        for clock in CLOCKS:
            flat = lines(clock, range(min(clock, 6)))
            self.check(flat, times(flat, -1), True)
            deep_one = Bag(clock, {"x" * 6: 1})
            self.check(deep_one, deep_one, True)
            self.check(deep_one, lines(clock, (0, 0, 0, 0, 0, 1)), False)
            self.check(lines(clock, (0, 0, 0, 1, 1, 1)), lines(clock, (0, 0, 1, 1, 1, 1)), False)
        # By the clock 2 there are few numbers to choose from, and three unsplittable bags to keep away from.
        row = [line(2, 0), line(2, 1), bag(2, xx=1, x=1, one=1)]
        for a, b in itertools.product(itertools.permutations(row), repeat=2):
            self.check(all_behind(a), all_behind(b), True)

    def test_webs_turned_about(self):
        # What stands behind a front part in two ways: x + 1 and x, put before y x + 1 and so on.
        for part in many_webs(1104, 16, knots=4, most=6, least=2):
            for front in front_parts(part):
                back = rest_behind(front, part)
                if 1 <= size(back.words) == size(front.words):
                    self.check(front, back)
            self.check(part, part, True)

    def test_unlike_lengths_and_numbers_alone(self):
        for clock in CLOCKS:
            x = bag(clock, x=1)
            for a, b in ((x, bag(clock, xx=1)), (x, one(clock)), (one(clock), x), (one(clock), one(clock)),
                         (bag(clock, xx=1), x), (one(clock), bag(clock, one=clock - 1)), (x, Bag(clock, {"y" * 6: 1}))):
                self.assertIsNone(alike(a, b))
                self.assertIs(is_alike(a, b, (one(clock), one(clock))), False)
                self.assertIs(is_alike(a, b, (a, b)), False)

    def test_6_letters(self):
        for clock in CLOCKS:
            self.check(Bag(clock, {"xxxxxy": 1, "": 1}), Bag(clock, {"yxxxxx": 1, "": 1}), True)
            self.check(Bag(clock, {"xxxxxy": 1, "": 1}), Bag(clock, {"xyxxxx": 1, "": 1}), True)
            self.check(Bag(clock, {"xxxxxy": 1, "": 1}), Bag(clock, {"xyxxxy": 1, "": 1}), False)
        full = all_behind([bag(3, x=1, y=1, z=2, one=number) for number in (1, 2, 1, 1, 2, 2)])
        self.assertGreater(len(full.words), 300)
        self.check(full, times(full, 2), True)
        self.check(full, together(full, bag(3, one=1)))


class Choosing(Case):
    """The search for a sum of carriers that has none of the unsplittable front parts."""

    def test_sums_with_other_numbers_than_0_and_1(self):
        fronts = [line(3, number) for number in range(3)]
        # x, x + 1 and their sum have a front each.
        found = apart_from(fronts, nothing(3), [line(3, 0), line(3, 1)])
        self.assertEqual(found, bag(3, one=2))
        found = apart_from(fronts, line(3, 0), [line(3, 1), behind(line(3, 1), line(3, 2))])
        self.assertFalse(any(divides(front, found) for front in fronts))

    def test_no_sum(self):
        x, y, both = bag(2, x=1), bag(2, y=1), bag(2, x=1, y=1)
        self.assertIsNone(apart_from([x, y, both], nothing(2), [x, y]))
        self.assertEqual(apart_from([x, y], nothing(2), [x, y]), both)
        self.assertIsNone(apart_from([x, y], nothing(2), [x, behind(x, y)]))
        self.assertIsNone(apart_from([x], nothing(2), []))
        self.assertEqual(apart_from([x], y, []), y)


class Judging(Case):

    def test_carriers_of_any_number_of_letters(self):
        chance = chance_of(1111)
        pairs = [(line(clock, 1, "xy"), line(clock, 1, "yx")) for clock in CLOCKS]
        pairs += [(lines(3, (0, 1)), lines(3, (0, 1))), (bag(2, xyx=1, x=1), bag(2, xyx=1, x=1))]
        for a, b in pairs:
            x, y = alike(a, b)
            for _ in range(10):
                q = random_bag(chance, a.clock, "xyz", 4, 3)
                more = (together(x, behind(a, q)), together(y, behind(q, b)))
                self.assertIs(is_alike(a, b, more), True)
                self.assertIs(is_alike(a, b, (times(more[0], -1), times(more[1], -1))), True)
                self.assertIs(is_alike(a, b, (behind(a, q), behind(q, b))), False)
                self.assertIs(is_alike(a, b, (more[0], together(more[1], one(a.clock)))), False)
                self.assertIs(is_alike(a, b, (together(more[0], one(a.clock)), more[1])), False)

    def test_against_the_words_of_the_document(self):
        chance = chance_of(1112)
        right = 0
        for turn in range(300):
            clock = CLOCKS[turn % 2]
            a, x = [random_bag(chance, clock, "xy", 2, 3, 1) for _ in range(2)]
            if turn % 3 == 0:
                a, b = lines(clock, (0, 1)), lines(clock, (1, 0))
                x = random_bag(chance, clock, "x", 2, 2)
                y = x
            else:
                # The quotients of the two, told from the last one on, give such pairs.
                q, p = x, a
                a, x = together(behind(p, q), one(clock)), p
                b, y = together(behind(q, p), one(clock)), p
                if turn % 3 == 1:
                    x, y = behind(x, y), behind(y, y)
            wanted = shows(a, b, x, y)
            right += wanted
            self.assertIs(is_alike(a, b, (x, y)), wanted)
        self.assertGreater(right, 100)

    def test_right_pairs_with_one_thing_changed(self):
        a, b = bag(3, xy=1, one=1), bag(3, yx=1, one=1)
        x = bag(3, x=1)
        self.assertIs(is_alike(a, b, (x, x)), True)
        for wrong in ([x, x], (x,), (x, x, x), (x, nothing(3)), (nothing(3), x), (nothing(3), nothing(3)), (x, times(x, 2)),
                      (x, bag(3, y=1)), (bag(3, y=1), x), (a, b), (x, bag(2, x=1)), (bag(2, x=1), bag(2, x=1)), (x, None),
                      (None, x), (x, x.words), (x, "x"), ("x", "x"), (x, [x]), ((x,), (x,)), ((x, x),), {0: x, 1: x},
                      (x, True), (x, deep(tuple, 39)), (deep(list, 39), x), (deep(dict, 39), deep(tuple, 39)), None, x, (),
                      (one(3), one(3)), (x,) * 20000):
            self.assertIs(is_alike(a, b, wrong), False)
        self.assertIs(is_alike(b, a, (x, x)), False)
        self.assertIs(is_alike(b, a, (bag(3, y=1), bag(3, y=1))), True)
        self.assertIs(is_alike(times(a, 2), b, (x, x)), False)
        self.assertIs(is_alike(times(a, 2), b, (x, times(x, 2))), True)

    def test_pairs_with_common_parts(self):
        part = lines(5, (1, 2))
        for common in (lines(5, (1,)), lines(5, (2, 3)), lines(5, (1, 2)), behind(part, part)):
            self.assertIs(is_alike(part, part, (common, common)), False)
        for apart in (lines(5, (3,)), one(5), bag(5, one=4), lines(5, (0, 3, 4))):
            self.assertIs(is_alike(part, part, (apart, apart)), True)

    def test_things_of_all_kinds(self):
        self.assertEqual(self.judges_oddly(is_alike, bag(2, x=1), bag(2, x=1)), [])
        self.assertEqual(self.judges_oddly(is_alike, one(2), one(2)), [])
        for thing in odd_things():
            self.assertIs(is_alike(bag(5, x=1), bag(5, x=1), (one(5), thing)), False)
            self.assertIs(is_alike(bag(5, x=1), bag(5, x=1), (thing, one(5))), False)

    def test_more_than_6_letters(self):
        for clock in CLOCKS:
            a, b = Bag(clock, {"x" * 11 + "y": 1, "": 1}), Bag(clock, {"y" + "x" * 11: 1, "": 1})
            x = Bag(clock, {"x" * 11: 1})
            self.assertIs(is_alike(a, b, (x, x)), True)
            self.assertIs(is_alike(a, b, (x, a)), False)
            self.assertIs(is_alike(behind(a, a), behind(a, a), (one(clock), one(clock))), True)
            self.assertIs(is_alike(behind(a, a), behind(a, a), (a, a)), False)


class Refusing(Case):

    def test_errors_in_their_order(self):
        long = {clock: Bag(clock, {"xyxyxyx": 1, "y": 1}) for clock in CLOCKS}
        judge = [lambda a, b, thing=thing: is_alike(a, b, thing) for thing in (None, (one(2), one(2)), deep(list))]
        for a, b in itertools.permutations(CLOCKS, 2):
            for call in (alike, *judge):
                self.refuses(UnlikeClocks, call, bag(a, x=1), bag(b, x=1))
                self.refuses(UnlikeClocks, call, long[a], one(b))
                self.refuses(IsNothing, call, nothing(a), long[b])
                self.refuses(IsNothing, call, one(a), nothing(b))
                self.refuses(IsNothing, call, nothing(a), nothing(a))
        for clock in CLOCKS:
            for other in (bag(clock, x=1), one(clock), long[clock]):
                self.assertEqual(self.refuses(TooLong, alike, long[clock], other).most, 6)
                self.assertEqual(self.refuses(TooLong, alike, other, long[clock]).most, 6)
            self.assertIs(is_alike(long[clock], long[clock], (one(clock), one(clock))), True)


if __name__ == "__main__":
    unittest.main()
