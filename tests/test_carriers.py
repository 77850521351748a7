"""Which bags carry a bag to another one: point 6.2."""

import itertools
import unittest

from frontparts.bags import Bag, all_behind, behind, replaced, times
from frontparts.carriers import carriers
from frontparts.errors import IsNothing, IsNumber, TooLong, UnlikeClocks
from frontparts.fronts import is_unsplittable
from frontparts.rows import rest_behind
from tests.samples import line, lines, random_lines
from tests.tools import CLOCKS, Case, all_tables, bag, chance_of, left_over, nothing, one, pairs, plus, product
from tests.tools import random_bag, rank, size, times as number_times, words_up_to


def some_pairs(seed, letters, most, many):
    """Pairs of bags of one clock, of at most so many letters; among them like ones, and ones with common parts."""
    chance = chance_of(seed)
    found = []
    while len(found) < many:
        clock = CLOCKS[len(found) % 4]
        a, b, c = [random_bag(chance, clock, letters, 2, 3, 1) for _ in range(3)]
        d = random_lines(chance, clock, 2)
        for part, other in ((a, a), (a, b), (behind(a, b), behind(b, a)), (behind(a, c), b), (behind(a, b), behind(a, c)),
                            (d, d), (behind(d, d), d), (behind(line(clock, 1), d), behind(d, line(clock, 1)))):
            if max(size(part.words), size(other.words)) <= most:
                found.append((part, other))
    return found


def is_carried(one_bag, other, table):
    """Whether a table carries the other bag to the one."""
    left = product(one_bag.clock, table, other.words)
    return left_over(one_bag.clock, [(one_bag.words,)], (left,)) == ((),)


def many_free(one_bag, other, letters):
    """How many bags there are in the list, by how many of the words are told by others where nothing is left."""
    clock = one_bag.clock
    words = words_up_to(letters, size(one_bag.words) - 1)
    rows = []
    for word in words:
        left = dict(left_over(clock, [(one_bag.words,)], (product(clock, {word: 1}, other.words),))[0])
        for row in rows:
            top = min(row, key=rank)
            left = plus(clock, left, number_times(clock, row, -left.get(top, 0) * pow(row[top], -1, clock)))
        if left:
            rows.append(left)
    return len(words) - len(rows)


class Carriers(Case):

    def check_list(self, found, part):
        """Checks the form of a list of carriers."""
        self.assertIs(type(found), list)
        heads = [min(dict(carrier.words), key=rank) for carrier in found]
        self.assertEqual(heads, sorted(set(heads), key=rank))
        for carrier, head in zip(found, heads):
            self.is_bag(carrier, part.clock, carrier.words)
            self.assertEqual(dict(carrier.words)[head], 1)
            self.assertLess(size(carrier.words), size(part.words))
            self.assertEqual([word for word, _ in carrier.words if word in heads], [head])

    def test_all_bags_that_carry(self):
        cases = [(part, other, "xy") for part, other in some_pairs(1001, "xy", 2, 60)]
        cases += [(part, other, "x") for part, other in some_pairs(1002, "x", 4, 60) if part.clock < 5]
        for part, other, letters in cases:
            clock = part.clock
            if size(part.words) > 2 and (letters == "xy" or "y" in str(part.words + other.words)):
                continue
            found = self.answers(carriers, part, other)
            self.check_list(found, part)
            sums = set()
            for numbers in itertools.product(range(clock), repeat=len(found)):
                tables = [number_times(clock, carrier.words, number) for carrier, number in zip(found, numbers)]
                sums.add(pairs(clock, plus(clock, *tables)))
            wanted = {pairs(clock, table) for table in all_tables(clock, letters, size(part.words) - 1)
                      if is_carried(part, other, table)}
            self.assertEqual(sums, wanted)

    def test_longer_bags_by_their_form_and_number(self):
        for letters, most, many in (("xyz", 3, 60), ("xy", 4, 80), ("xy", 6, 40)):
            for part, other in some_pairs(1003, letters, most, many):
                found = self.answers(carriers, part, other)
                self.check_list(found, part)
                for carrier in found:
                    self.assertTrue(is_carried(part, other, dict(carrier.words)))
                self.assertEqual(len(found), many_free(part, other, letters))

    def test_by_hand(self):
        for clock in CLOCKS:
            x, y = bag(clock, x=1), bag(clock, y=1)
            self.assertEqual(carriers(x, x), [one(clock)])
            self.assertEqual(carriers(x, y), [])
            self.assertEqual(carriers(line(clock, 1, "xy"), line(clock, 1, "yx")), [x])
            self.assertEqual(carriers(line(clock, 1, "yx"), line(clock, 1, "xy")), [y])
            # x y x is x carried from y x to x y, but not as a whole.
            self.assertEqual(carriers(behind(x, y), behind(y, x)), [x])
            self.assertEqual(carriers(behind(x, y), y), [x])
            self.assertEqual(carriers(y, behind(x, y)), [])
            self.assertEqual(carriers(x, behind(x, y)), [one(clock)])
            self.assertEqual(carriers(x, behind(y, x)), [])
            self.assertEqual(carriers(bag(clock, xxx=1), bag(clock, xx=clock - 1)), [bag(clock, xx=1), x])
            self.assertEqual(carriers(bag(clock, xx=clock - 1), bag(clock, xxx=1)), [x, one(clock)])
            twisted = bag(clock, xy=1, yx=clock - 1)
            self.assertEqual(carriers(twisted, twisted), [one(clock)])
        self.assertEqual(carriers(bag(2, xx=1, x=1, one=1), bag(2, xx=1, x=1, one=1)), [bag(2, x=1), one(2)])

    def test_numbers_make_no_difference(self):
        for part, other in some_pairs(1004, "xy", 4, 24):
            found = carriers(part, other)
            self.assertEqual(carriers(times(part, -1), other), found)
            self.assertEqual(carriers(part, times(other, -1)), found)

    def test_carriers_of_an_unsplittable_bag_to_itself_can_be_divided(self):
        more = 0
        for part in self.unsplittable_bags():
            clock = part.clock
            found = carriers(part, part)
            more += len(found) > 1
            everything = [Bag(clock, plus(clock, *[number_times(clock, carrier.words, number)
                                                   for carrier, number in zip(found, numbers)]))
                          for numbers in itertools.product(range(clock), repeat=len(found))]
            for x in everything:
                fitting = [z for z in everything if left_over(
                    clock, [(part.words,)], (plus(clock, product(clock, x.words, z.words), {"": -1}),)) == ((),)]
                self.assertEqual(len(fitting), 1 if x.words else 0)
        self.assertGreater(more, 12)

    def unsplittable_bags(self):
        """Bags of one letter, with words of two letters and sums of letters in its place, and bags of two letters."""
        for clock, most in ((2, 4), (2, 3), (3, 2), (5, 2)):
            for table in list(all_tables(clock, "x", most))[::-1]:
                part = Bag(clock, table)
                if size(part.words) == most and part.words[0][1] == 1 and "x" in table and is_unsplittable(part):
                    yield part
                    if most < 4:
                        yield replaced(part, {"x": bag(clock, xy=1)})
                        yield replaced(part, {"x": bag(clock, x=1, y=1)})
        chance = chance_of(1005)
        for turn in range(60):
            part = random_bag(chance, CLOCKS[turn % 3], "xy", 3, 4, 1)
            if is_unsplittable(part):
                yield part

    def test_6_letters(self):
        part = lines(7, range(6))
        self.assertEqual(carriers(part, part), [Bag(7, {"x" * many: 1}) for many in range(5, -1, -1)])
        full = all_behind([bag(3, x=1, y=1, z=2, one=number) for number in (1, 2, 1, 1, 2, 2)])
        found = carriers(full, full)
        self.check_list(found, full)
        self.assertEqual(len(found), 6)
        for carrier in found:
            self.assertIsNotNone(rest_behind(full, behind(carrier, full)))


class Refusing(Case):

    def test_errors_in_their_order(self):
        long = {clock: Bag(clock, {"xyxyxyx": 1, "y": 1}) for clock in CLOCKS}
        for a, b in itertools.permutations(CLOCKS, 2):
            self.refuses(UnlikeClocks, carriers, bag(a, x=1), bag(b, x=1))
            self.refuses(UnlikeClocks, carriers, one(a), bag(b, x=1))
            self.refuses(UnlikeClocks, carriers, long[a], one(b))
            self.refuses(IsNothing, carriers, nothing(a), long[b])
            self.refuses(IsNothing, carriers, one(a), nothing(b))
        for clock in CLOCKS:
            x, number = bag(clock, x=1), bag(clock, one=clock - 1)
            self.refuses(IsNothing, carriers, nothing(clock), nothing(clock))
            for a, b in ((number, x), (x, number), (number, number), (long[clock], number), (number, long[clock])):
                self.refuses(IsNumber, carriers, a, b)
            for a, b in ((long[clock], x), (x, long[clock]), (long[clock], long[clock])):
                self.assertEqual(self.refuses(TooLong, carriers, a, b).most, 6)

    def test_bags_of_unlike_lengths_up_to_6_letters(self):
        for many in range(1, 7):
            part, other = Bag(2, {"x" * many: 1}), Bag(2, {"x" * 6: 1})
            self.assertEqual(len(carriers(part, other)), many)
            self.assertEqual(len(carriers(other, part)), many)


if __name__ == "__main__":
    unittest.main()
