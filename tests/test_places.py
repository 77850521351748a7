"""Bags that change places, their root, and products of two bags: point 7."""

import itertools
import unittest

from frontparts.bags import Bag, all_together, behind, less, mirrored, plain, power, times, together
from frontparts.errors import IsNothing, IsNumber, NoNumber, TooLong, UnlikeClocks
from frontparts.places import change_places, dependence, in_powers, one_root, products, root
from tests.tools import CLOCKS, Case, all_tables, bag, chance_of, is_integer, is_plain, multiplied, nothing, one, pairs
from tests.tools import plus, product, random_bag, size
from tests.tools import times as number_times


def sum_of_powers(part, numbers):
    """The bag of the powers of a bag with these numbers, that of ONE first."""
    found = {}
    raised = {"": 1}
    for number in numbers:
        found = plus(part.clock, found, number_times(part.clock, raised, number))
        raised = product(part.clock, raised, part.words)
    return long_bag(part.clock, found)


def long_bag(clock, table):
    """A bag of words of any length, put together from short ones."""
    rows = [nothing(clock)]
    for word, number in pairs(clock, table):
        row = Bag(clock, {"": number})
        for at in range(0, len(word), 12):
            row = behind(row, Bag(clock, {word[at:at + 12]: 1}))
        rows.append(row)
    return all_together(rows)


def some_pairs(seed, many=40, most=3):
    """Pairs of bags of one clock, about half of which change places."""
    chance = chance_of(seed)
    for turn in range(many):
        clock = CLOCKS[turn % 4]
        part = random_bag(chance, clock, "xy", most, 3)
        other = random_bag(chance, clock, "xy", most, 3)
        if turn % 8 > 3:
            other = sum_of_powers(part, [chance.randrange(clock) for _ in range(chance.randint(0, 3))])
        yield part, other
    for clock in CLOCKS:
        for part in (nothing(clock), one(clock), bag(clock, one=clock - 1), bag(clock, x=1), bag(clock, xy=1, one=1)):
            for other in (nothing(clock), bag(clock, one=clock - 1), bag(clock, x=clock - 1, one=1), bag(clock, y=1)):
                yield part, other


def some_roots(seed, many=60):
    """Pairs of a bag of length 1 or more and a sum of its powers, of at most 8 letters."""
    chance = chance_of(seed)
    for turn in range(many):
        clock = CLOCKS[turn % 4]
        most = chance.randint(1, 4)
        part = random_bag(chance, clock, "xyz", most, chance.randint(1, 4), 1)
        if turn % 3 == 0:
            part = together(part, bag(clock, one=chance.randint(1, clock - 1)))
        numbers = [chance.randrange(clock) for _ in range(8 // size(part.words))] + [chance.randint(1, clock - 1)]
        yield part, sum_of_powers(part, numbers[-1 - chance.randint(1, len(numbers) - 1):])


class ChangePlaces(Case):

    def test_change_places(self):
        found = [0, 0]
        for part, other in some_pairs(1301):
            answer = self.answers(change_places, part, other)
            self.assertIs(answer, multiplied(part, other) == multiplied(other, part))
            self.assertIs(change_places(other, part), answer)
            found[answer] += 1
        self.assertGreater(min(found), 15)

    def test_by_hand(self):
        for clock in CLOCKS:
            x, xy = bag(clock, x=1), bag(clock, xy=1)
            self.assertIs(change_places(x, x), True)
            self.assertIs(change_places(x, xy), False)
            self.assertIs(change_places(xy, bag(clock, yx=1)), False)
            self.assertIs(change_places(xy, bag(clock, xyxy=clock - 1, xy=1, one=1)), True)
            self.assertIs(change_places(behind(xy, x), together(behind(xy, x), bag(clock, x=1))), False)
            for part in (nothing(clock), one(clock), bag(clock, one=clock - 1)):
                self.assertIs(change_places(part, xy), True)
                self.assertIs(change_places(xy, part), True)

    def test_unlike_clocks(self):
        for a, b in itertools.permutations(CLOCKS, 2):
            for make in (nothing, one, lambda clock: bag(clock, x=1)):
                self.refuses(UnlikeClocks, change_places, make(a), make(b))
                self.refuses(UnlikeClocks, change_places, make(a), bag(b, xy=1))


class Root(Case):

    def check(self, part, found):
        """Checks the form of a root, and that the bag is a sum of its powers."""
        self.is_bag(found, part.clock, found.words)
        self.assertTrue(is_plain(found.words))
        self.assertNotIn("", dict(found.words))
        self.assertGreater(size(found.words), 0)
        self.assertEqual(multiplied(part, found), multiplied(found, part))
        self.assertIsNotNone(in_powers(part, found))

    def test_all_bags_that_change_places_are_sums_of_powers(self):
        for clock, letters, most, step in ((2, "xy", 2, 1), (3, "xy", 1, 1), (5, "xy", 1, 1), (3, "xy", 2, 60), (2, "x", 5, 4)):
            tables = list(all_tables(clock, letters, most))
            for table in tables[1::step]:
                part = Bag(clock, table)
                if size(part.words) > 0:
                    found = self.answers(root, part)
                    self.check(part, found)
                    powers = most // size(found.words)
                    wanted = {sum_of_powers(found, numbers).words
                              for numbers in itertools.product(range(clock), repeat=powers + 1)}
                    others = tables if clock == 2 or most == 1 else tables[::7]
                    fitting = {pairs(clock, other) for other in others
                               if product(clock, table, other) == product(clock, other, table)}
                    self.assertEqual(fitting, wanted & {pairs(clock, other) for other in others})

    def test_sums_of_powers_have_the_root(self):
        for part, whole in some_roots(1302):
            if size(whole.words) > 0:
                found = self.answers(root, whole)
                self.check(whole, found)
                self.assertEqual(found, root(part))
                self.assertEqual(root(times(whole, -1)), found)
                self.assertEqual(root(together(whole, one(part.clock))), found)
                self.assertEqual(root(mirrored(whole)), root(mirrored(found)))

    def test_powers_as_many_as_the_clock(self):
        for clock in (2, 3, 5, 7):
            part = bag(clock, x=1, y=clock - 1, one=1)
            self.assertEqual(root(power(part, clock)), bag(clock, x=1, y=clock - 1))
        for numbers in ((0, 0, 1), (1, 1, 1), (0, 0, 0, 0, 1), (0, 0, 1, 0, 1), (1, 1, 0, 0, 1)):
            part = bag(2, xy=1, x=1)
            self.assertEqual(root(sum_of_powers(part, numbers)), part)

    def test_by_hand(self):
        for clock in CLOCKS:
            self.assertEqual(root(bag(clock, x=clock - 1)), bag(clock, x=1))
            self.assertEqual(root(bag(clock, xyxy=1, xy=clock - 1)), bag(clock, xy=1))
            self.assertEqual(root(bag(clock, xyxy=1, xx=1)), bag(clock, xyxy=1, xx=1))
            self.assertEqual(root(bag(clock, xyxy=1, x=1)), bag(clock, xyxy=1, x=1))
            self.assertEqual(root(bag(clock, xyx=1, one=1)), bag(clock, xyx=1))
            self.assertEqual(root(behind(bag(clock, x=1), bag(clock, x=1, y=1))),
                             behind(bag(clock, x=1), bag(clock, x=1, y=1)))

    def test_8_letters(self):
        for clock in CLOCKS:
            x = Bag(clock, {"x" * 8: clock - 1, "xxx": 1, "": 1})
            self.assertEqual(root(x), bag(clock, x=1))
            self.assertEqual(root(Bag(clock, {"xyyxxyyx": 1})), bag(clock, xyyx=1))
            self.assertEqual(root(Bag(clock, {"xyyxxyyx": 1, "x": 1})), Bag(clock, {"xyyxxyyx": 1, "x": 1}))
        full = bag(7, x=1, y=2, z=3, xx=1, zy=5, yz=6)
        self.assertEqual(root(sum_of_powers(full, (3, 0, 1, 0, 2))), plain(full))

    def test_errors_in_their_order(self):
        for clock in CLOCKS:
            self.refuses(IsNothing, root, nothing(clock))
            for number in range(1, clock):
                self.refuses(IsNumber, root, bag(clock, one=number))
            for long in (Bag(clock, {"x" * 9: 1}), Bag(clock, {"xyz" * 4: 1, "x": 1}), power(bag(clock, xxx=1), 9)):
                self.assertEqual(self.refuses(TooLong, root, long).most, 8)


class InPowers(Case):

    def test_sums_of_powers(self):
        chance = chance_of(1303)
        for turn in range(60):
            clock = CLOCKS[turn % 4]
            base = random_bag(chance, clock, "xyz", 2, 3, 1)
            if turn % 2:
                base = together(base, bag(clock, one=chance.randint(1, clock - 1)))
            numbers = tuple(chance.randrange(clock) for _ in range(chance.randint(0, 4))) + (chance.randint(1, clock - 1),)
            found = self.answers(in_powers, sum_of_powers(base, numbers), base)
            self.assertEqual(found, numbers)
            self.assertEqual([type(found), *[type(number) for number in found]], [tuple] + [int] * len(numbers))

    def test_against_all_sums(self):
        for clock, base in ((2, bag(2, x=1, one=1)), (2, bag(2, x=1, y=1)), (3, bag(3, x=2, one=2)), (3, bag(3, y=2, x=1))):
            sums = {sum_of_powers(base, numbers).words: numbers for numbers in itertools.product(range(clock), repeat=3)}
            for table in all_tables(clock, "xy", 1 if clock == 3 else 2):
                wanted = sums.get(pairs(clock, table))
                if wanted is not None:
                    while wanted and wanted[-1] == 0:
                        wanted = wanted[:-1]
                self.assertEqual(in_powers(Bag(clock, table), base), wanted)

    def test_by_hand(self):
        for clock in CLOCKS:
            xy = bag(clock, xy=1)
            self.assertEqual(in_powers(nothing(clock), xy), ())
            self.assertEqual(in_powers(bag(clock, one=clock - 1), xy), (clock - 1,))
            self.assertEqual(in_powers(xy, xy), (0, 1))
            self.assertEqual(in_powers(xy, times(xy, -1)), (0, clock - 1))
            self.assertEqual(in_powers(xy, bag(clock, xy=1, one=1)), (clock - 1, 1))
            self.assertEqual(in_powers(bag(clock, xyxy=1, one=1), xy), (1, 0, 1))
            for none in (bag(clock, x=1), bag(clock, yx=1), bag(clock, xyx=1), bag(clock, xyxy=1, x=1), bag(clock, xy=1, yx=1)):
                self.assertIsNone(in_powers(none, xy))
            self.assertIsNone(in_powers(bag(clock, x=1), bag(clock, xx=1)))

    def test_long_bags(self):
        base = Bag(3, {"x" * 12: 2, "y": 1})
        self.assertEqual(in_powers(power(base, 12), base), (0,) * 12 + (1,))
        self.assertIsNone(in_powers(together(power(base, 12), bag(3, x=1)), base))
        self.assertEqual(in_powers(bag(3, x=1), bag(3, x=1, one=2)), (1, 1))

    def test_errors_in_their_order(self):
        for clock in CLOCKS:
            other = 3 if clock == 2 else 2
            for part in (nothing(clock), one(clock), bag(clock, x=1), nothing(other), bag(other, x=1)):
                self.refuses(IsNothing, in_powers, part, nothing(clock))
                self.refuses(IsNumber, in_powers, part, bag(clock, one=clock - 1))
                if part.clock == other:
                    self.refuses(UnlikeClocks, in_powers, part, bag(clock, x=1))


class OneRoot(Case):

    def test_one_root(self):
        several = 0
        for part, other in some_pairs(1304, 80, 2):
            if max(size(part.words), size(other.words)) > 8:
                continue
            found = self.answers(one_root, part, other)
            fits = multiplied(part, other) == multiplied(other, part)
            if min(size(part.words), size(other.words)) > 0 and fits:
                self.assertEqual(found, root(part))
                self.assertEqual(found, root(other))
                several += 1
            else:
                self.assertIsNone(found)
        self.assertGreater(several, 15)

    def test_by_hand(self):
        for clock in CLOCKS:
            x, xy = bag(clock, x=1), bag(clock, xy=1)
            self.assertEqual(one_root(bag(clock, xyxy=1, one=1), bag(clock, xy=clock - 1, one=1)), xy)
            self.assertEqual(one_root(Bag(clock, {"x" * 8: 1}), Bag(clock, {"x" * 7: 1})), x)
            self.assertEqual(one_root(Bag(clock, {"xy" * 2: 1}), Bag(clock, {"xy" * 3: 1})), xy)
            for part in (nothing(clock), one(clock), bag(clock, one=clock - 1), bag(clock, yx=1), bag(clock, xy=1, x=1)):
                self.assertIsNone(one_root(part, xy))
                self.assertIsNone(one_root(xy, part))
            self.assertIsNone(one_root(nothing(clock), one(clock)))

    def test_errors_in_their_order(self):
        long = {clock: Bag(clock, {"x" * 9: 1}) for clock in CLOCKS}
        for a, b in itertools.permutations(CLOCKS, 2):
            for part in (nothing(a), one(a), bag(a, x=1), long[a]):
                for other in (nothing(b), one(b), bag(b, x=1), long[b]):
                    self.refuses(UnlikeClocks, one_root, part, other)
        for clock in CLOCKS:
            for part in (nothing(clock), one(clock), bag(clock, x=1), bag(clock, y=1), long[clock]):
                self.assertEqual(self.refuses(TooLong, one_root, part, long[clock]).most, 8)
                self.assertEqual(self.refuses(TooLong, one_root, long[clock], part).most, 8)


class Products(Case):

    def test_products(self):
        for part, other in itertools.islice(some_pairs(1305), 0, None, 4):
            for most in range(4):
                found = self.answers(products, part, other, most)
                self.assertIs(type(found), list)
                signs = ["".join(word) for many in range(most + 1) for word in itertools.product("01", repeat=many)]
                self.assertEqual([told for told, _ in found], signs)
                for pair in found:
                    self.assertEqual((type(pair), len(pair)), (tuple, 2))
                    bags = [part if sign == "0" else other for sign in pair[0]]
                    self.is_bag(pair[1], part.clock, multiplied(one(part.clock), *bags))

    def test_5_signs(self):
        found = products(bag(7, x=3), bag(7, y=2), 5)
        self.assertEqual((len(found), found[0], found[-1]), (63, ("", one(7)), ("1" * 5, bag(7, yyyyy=2 ** 5 % 7))))
        self.assertEqual(dict(found[31:])["01101"], bag(7, xyyxy=3 ** 2 * 2 ** 3 % 7))

    def test_like_bags_stand_there_for_each_of_their_signs(self):
        self.assertEqual(products(one(2), one(2), 1), [("", one(2)), ("0", one(2)), ("1", one(2))])
        self.assertEqual(products(nothing(3), one(3), 0), [("", one(3))])

    def test_errors_in_their_order(self):
        for call in (products, dependence):
            for a, b in itertools.permutations(CLOCKS, 2):
                for most in (0, 5, 6, -1, True, None):
                    self.refuses(UnlikeClocks, call, bag(a, x=1), bag(b, x=1), most)
                    self.refuses(UnlikeClocks, call, nothing(a), nothing(b), most)
            for parts in ((bag(3, x=1), bag(3, y=1)), (nothing(3), one(3)), (bag(3, x=1), bag(3, x=1))):
                self.refuses_all_but(lambda thing: is_integer(thing) and 0 <= thing <= 5, NoNumber,
                                     lambda thing: call(*parts, thing))
                self.refuses(NoNumber, call, *parts, 6)


class Dependence(Case):

    def wanted(self, part, other, most):
        """The sum whose greatest signs are the least, by trying all numbers."""
        clock = part.clock
        told = products(part, other, most)
        for many in range(1, len(told) + 1):
            found = []
            for numbers in itertools.product(range(clock), repeat=many - 1):
                tables = [number_times(clock, row.words, number) for number, (_, row) in zip((*numbers, 1), told)]
                if not plus(clock, *tables):
                    found.append({signs: number for number, (signs, _) in zip((*numbers, 1), told) if number})
            if found:
                self.assertEqual(len(found), 1)
                return found[0]
        return None

    def test_against_all_numbers(self):
        several = 0
        for part, other in some_pairs(1306, 64, 2):
            for most in range(3 if part.clock < 5 else 2):
                wanted = self.wanted(part, other, most)
                found = self.answers(dependence, part, other, most)
                self.assertEqual(found, wanted)
                several += found is not None
                if found is not None:
                    self.assertIs(type(found), dict)
                    for signs, number in found.items():
                        self.assertEqual((type(signs), type(number)), (str, int))
        self.assertGreater(several, 40)

    def test_of_bags_that_change_places_two_signs_tell_it(self):
        for part, other in some_pairs(1307, 48, 2):
            if change_places(part, other):
                wanted = dependence(part, other, 2)
                self.assertEqual(wanted[max(wanted, key=lambda signs: (len(signs), signs))], 1)
                for most in (3, 4, 5):
                    self.assertEqual(dependence(part, other, most), wanted)

    def test_other_bags_satisfy_no_equation(self):
        for part, other in some_pairs(1308, 24, 2):
            if not change_places(part, other):
                for most in range(6):
                    self.assertIsNone(dependence(part, other, most))
                self.assertEqual(self.rank(products(part, other, 4)), 31)

    def rank(self, told):
        """How many of the bags are no sums of those before them."""
        rows = []
        for _, row in told:
            left = dict(row.words)
            for head, table in rows:
                turn = -left.get(head, 0) * pow(table[head], -1, row.clock)
                left = plus(row.clock, left, number_times(row.clock, table, turn))
            if left:
                rows.append((min(left), left))
        return len(rows)

    def test_by_hand(self):
        for clock in CLOCKS:
            x, y = bag(clock, x=1), bag(clock, y=1)
            self.assertIsNone(dependence(x, y, 5))
            self.assertIsNone(dependence(x, x, 0))
            self.assertEqual(dependence(x, x, 1), {"1": 1, "0": clock - 1})
            self.assertEqual(dependence(nothing(clock), y, 1), {"0": 1})
            self.assertEqual(dependence(x, nothing(clock), 5), {"1": 1})
            self.assertEqual(dependence(bag(clock, one=clock - 1), y, 3), {"0": 1, "": 1})
            self.assertEqual(dependence(x, one(clock), 1), {"1": 1, "": clock - 1})
            self.assertEqual(dependence(x, bag(clock, xx=1, x=1), 2), {"00": 1, "1": clock - 1, "0": 1})
            self.assertIsNone(dependence(x, bag(clock, xx=1), 1))
            self.assertEqual(dependence(x, bag(clock, xxx=1), 2), {"10": 1, "01": clock - 1})
            self.assertEqual(dependence(bag(clock, xx=1), x, 4), {"10": 1, "01": clock - 1})
            self.assertEqual(dependence(bag(clock, x=1, one=1), less(x, one(clock)), 1),
                             {"1": 1, "0": clock - 1, "": 2} if clock > 2 else {"1": 1, "0": 1})


if __name__ == "__main__":
    unittest.main()
