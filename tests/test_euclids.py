"""Common back parts, continuations ahead, continuants and quotients: points 2.6 and 2.7."""

import itertools
import unittest

from frontparts.bags import Bag, all_behind, behind, length, mirrored, plain, times
from frontparts.errors import IsNothing, NoRow, TooLong, UnlikeClocks
from frontparts.euclids import back_common, continuant, continued_ahead, quotients
from frontparts.fronts import back_parts
from frontparts.rows import continued, front_common
from tests.tools import CLOCKS, Case, all_tables, bag, chance_of, deep, divides, is_row, multiplied, nothing, one
from tests.tools import pairs, plus, product, random_bag, size, times as number_times


def two_bags(seed, many=12):
    chance = chance_of(seed)
    for clock in CLOCKS:
        yield one(clock), bag(clock, x=1, y=clock - 1)
        yield bag(clock, x=1), bag(clock, y=1)
        for turn in range(many):
            back = random_bag(chance, clock, "xy", 2, 3)
            a, b, c = [random_bag(chance, clock, "xyz", 1, 2) for _ in range(3)]
            if turn % 2:
                yield all_behind([a, b, back]), all_behind([c, back])
            else:
                yield all_behind([a, back]), all_behind([b, a, back])


class Behind(Case):

    def ends_with(self, part, back):
        return divides(mirrored(back), mirrored(part))

    def test_back_common(self):
        for a, b in two_bags(91):
            found = self.answers(back_common, a, b)
            self.assertIs(type(found), Bag)
            both = [part for part in back_parts(a) if part in back_parts(b)]
            self.assertEqual(found, both[-1])
            for part in both:
                self.assertTrue(self.ends_with(found, part))

    def test_continued_ahead(self):
        there = 0
        for a, b in two_bags(92):
            found = self.answers(continued_ahead, a, b)
            turned = continued(mirrored(a), mirrored(b))
            self.assertEqual(found is None, turned is None)
            if found is not None:
                there += 1
                self.assertEqual(found.words[0][1], 1)
                self.assertTrue(self.ends_with(found, a))
                self.assertTrue(self.ends_with(found, b))
                self.assertEqual(size(found.words), size(turned.words))
        self.assertGreater(there, 10)

    def test_continued_ahead_against_a_search(self):
        small = [Bag(2, table) for table in all_tables(2, "xy", 1) if table]
        products = {part.words: {multiplied(other, part) for other in small} for part in small}
        for a, b in itertools.product(small, repeat=2):
            both = products[a.words] & products[b.words]
            found = continued_ahead(a, b)
            if found is None:
                self.assertEqual(both, set())
            for words in both:
                self.assertTrue(self.ends_with(Bag(2, dict(words)), found))

    def test_by_hand(self):
        self.assertEqual(back_common(bag(3, xy=2), bag(3, yy=1)), bag(3, y=1))
        self.assertEqual(back_common(bag(3, xy=2), bag(3, x=1)), one(3))
        self.assertEqual(back_common(bag(5, xyx=1, x=2), bag(5, xyx=3, yyx=3)), bag(5, x=1))
        # Mirrored, the longest words change places, and with them the number that is made 1.
        self.assertEqual(back_common(bag(5, xxy=2, xyx=1), bag(5, xyx=1, xxy=2)), bag(5, xxy=1, xyx=3))
        self.assertIsNone(continued_ahead(bag(2, x=1), bag(2, y=1)))
        self.assertEqual(continued_ahead(bag(3, y=2), bag(3, xy=2)), bag(3, xy=1))
        self.assertEqual(continued_ahead(bag(2, x=1), bag(2, yx=1, one=1)), bag(2, xyx=1, x=1))
        self.assertEqual(continued_ahead(bag(5, xy=2, yx=1), bag(5, one=3)), bag(5, xy=1, yx=3))

    def test_errors_in_their_order(self):
        long = behind(Bag(2, {"x" * 12: 1}), bag(2, y=1))
        for call in (back_common, continued_ahead, quotients):
            for a, b in itertools.permutations(CLOCKS, 2):
                self.refuses(UnlikeClocks, call, bag(a, x=1), bag(b, x=1))
                self.refuses(IsNothing, call, nothing(a), bag(b, x=1))
                self.refuses(IsNothing, call, bag(a, x=1), nothing(b))
            self.refuses(IsNothing, call, nothing(2), nothing(2))
            self.refuses(IsNothing, call, long, nothing(3))
            self.refuses(UnlikeClocks, call, long, one(3))

    def test_12_and_13_letters(self):
        edge = Bag(2, {"yx" * 6: 1, "": 1})
        long = behind(bag(2, x=1), edge)
        self.assertEqual(back_common(edge, edge), edge)
        for a, b in ((long, edge), (edge, long), (long, long), (one(2), long)):
            self.assertEqual(self.refuses(TooLong, back_common, a, b).most, 12)
        self.assertEqual(continued_ahead(long, edge), long)
        self.assertEqual(quotients(behind(edge, long), edge), (long,))


class Continuants(Case):

    def wanted(self, row):
        """By the words of the document, told from the last bag on."""
        clock = row[0].clock
        if len(row) == 1:
            return dict(row[0].words)
        shorter = self.wanted(row[:-2]) if len(row) > 2 else {"": 1}
        return plus(clock, product(clock, self.wanted(row[:-1]), row[-1].words), shorter)

    def test_one_bag_to_eight(self):
        chance = chance_of(93)
        for clock in CLOCKS:
            for many in range(1, 9):
                row = [random_bag(chance, clock, "xyz", 1, 2) for _ in range(many)]
                self.is_bag(self.answers(continuant, row), clock, pairs(clock, self.wanted(row)))
                self.assertEqual(continuant(tuple(row)), continuant(row))

    def test_by_hand(self):
        x, y, z = bag(7, x=1), bag(7, y=1), bag(7, z=1)
        self.assertEqual(continuant([x]), x)
        self.assertEqual(continuant([x, y]), bag(7, xy=1, one=1))
        self.assertEqual(continuant((x, y, z)), bag(7, xyz=1, x=1, z=1))
        self.assertEqual(continuant([nothing(7)]), nothing(7))
        self.assertEqual(continuant([nothing(7)] * 8), one(7))
        self.assertEqual(length(continuant([x] * 8)), 8)

    def test_no_row(self):
        self.refuses_all_but(lambda thing: is_row(thing, 8), NoRow, continuant)
        for wrong in ([], (), [one(2)] * 9, [one(2), one(3)], one(2), {0: one(2)}, [one(2), None], [deep(list)],
                      [one(2), (one(2),)]):
            self.refuses(NoRow, continuant, wrong)


class Quotients(Case):

    def follow(self, one_bag, other, told):
        """Divides to and fro by what was told, and returns the last bag that is not nothing."""
        clock = one_bag.clock
        a, b = dict(one_bag.words), dict(other.words)
        for quotient in told:
            self.assertTrue(a and b)
            left = plus(clock, a, number_times(clock, product(clock, b, quotient.words), -1))
            self.assertLess(size(left.items()), size(b.items()))
            a, b = b, left
        self.assertEqual(b, {})
        return Bag(clock, a)

    def rows(self, seed):
        chance = chance_of(seed)
        for clock in CLOCKS:
            for many in (1, 2, 3, 4):
                for _ in range(6):
                    front = random_bag(chance, clock, "xy", 1, 2)
                    row = [random_bag(chance, clock, "xy", 1, 2, 1) for _ in range(many)]
                    shorter = continuant(row[:-1]) if many > 1 else one(clock)
                    yield behind(front, continuant(row)), behind(front, shorter), row

    def test_the_quotients_of_continuants(self):
        for a, b, row in self.rows(94):
            # Bags of length 1 are what comes back, the last one first, if nothing is shorter by chance.
            found = self.answers(quotients, a, b)
            self.assertIs(type(found), tuple)
            self.follow(a, b, found)
            self.assertEqual(found, tuple(row[::-1]))

    def test_the_tenth_fact(self):
        chance = chance_of(95)
        there = lacking = 0
        pairs_of_bags = [(a, b) for a, b, _ in self.rows(96)]
        for clock in CLOCKS:
            for _ in range(20):
                pairs_of_bags.append((random_bag(chance, clock, "xy", 2, 2), random_bag(chance, clock, "xy", 1, 2)))
        for a, b in pairs_of_bags:
            found = quotients(a, b)
            self.assertEqual(found is None, continued(a, b) is None)
            if found is None:
                lacking += 1
            else:
                there += 1
                last = self.follow(a, b, found)
                self.assertEqual(plain(last), front_common(a, b))
                self.is_bag(a, a.clock, multiplied(last, continuant(found[::-1])))
        self.assertGreater(there, 20)
        self.assertGreater(lacking, 10)

    def test_by_hand(self):
        x, y = bag(3, x=1), bag(3, y=1)
        self.assertEqual(quotients(bag(3, xy=1, one=1), x), (y, x))
        self.assertEqual(quotients(x, bag(3, xy=1, one=1)), (nothing(3), y, x))
        self.assertIsNone(quotients(x, y))
        self.assertIsNone(quotients(bag(3, xy=1, y=1), x))
        self.assertEqual(quotients(bag(3, one=2), one(3)), (bag(3, one=2),))
        self.assertEqual(quotients(one(3), x), (nothing(3), x))
        self.assertEqual(quotients(x, x), (one(3),))
        self.assertEqual(quotients(times(x, 2), x), (bag(3, one=2),))


if __name__ == "__main__":
    unittest.main()
