"""Dividing, rows and their bases, sums, idle tuples, common front parts and continuations: points 2.1 to 2.4."""

import itertools
import unittest

from frontparts.bags import Bag, all_behind, behind, length, less, plain, times, together
from frontparts.errors import IsNothing, NoRow, TooLong, UnlikeClocks
from frontparts.fronts import front_parts
from frontparts.rows import base, continued, front_common, idle, is_made, made, rest, rest_ahead, rest_behind
from tests.tools import CLOCKS, Case, all_tables, bag, chance_of, deep, divides, is_row, left_over
from tests.tools import multiplied, nothing, odd_things, one, pairs, product, random_bag, rank, size, summed


def random_rows(seed, many=12):
    """Rows of 1 to 6 bags: any ones, with a common front, with sums of one another, with nothing, with numbers."""
    chance = chance_of(seed)
    for clock in CLOCKS:
        yield [nothing(clock)]
        yield (nothing(clock), nothing(clock), nothing(clock))
        yield [Bag(clock, {"": clock - 1})]
        yield [one(clock), bag(clock, x=1), one(clock), nothing(clock)]
        yield [bag(clock, x=1, y=1), bag(clock, x=1, z=1), bag(clock, y=1, z=1)]
        for turn in range(many):
            row = [random_bag(chance, clock, "xyz"[:2 + turn % 2], 3, 3) for _ in range(1 + turn % 6)]
            yield row
            front = random_bag(chance, clock, "xy", 2, 2)
            yield tuple(behind(front, part) for part in row)
            made_of = [behind(row[0], random_bag(chance, clock, "xy", 2, 2)) for _ in range(2)]
            yield [together(made_of[0], behind(row[-1], random_bag(chance, clock, "xy", 1, 2))), *made_of,
                   row[0], nothing(clock)][:6]


class Rests(Case):

    def test_products_are_divided_again(self):
        chance = chance_of(41)
        for clock in CLOCKS:
            for _ in range(30):
                front = random_bag(chance, clock, most=4, many=5)
                back = random_bag(chance, clock, most=4, many=5)
                both = behind(front, back)
                self.assertEqual(self.answers(rest_behind, front, both), back)
                self.assertEqual(self.answers(rest_ahead, both, back), front)

    def test_against_a_search_through_all_candidates(self):
        for clock, letters, most in ((2, "xy", 1), (2, "x", 3), (3, "x", 2), (5, "x", 1)):
            tables = [table for table in all_tables(clock, letters, most)]
            behinds, aheads = {}, {}
            for one_table, other in itertools.product(tables, repeat=2):
                both = pairs(clock, product(clock, one_table, other))
                behinds[pairs(clock, one_table), both] = pairs(clock, other)
                aheads[pairs(clock, other), both] = pairs(clock, one_table)
            for part, told in itertools.product(tables, all_tables(clock, letters, most)):
                part, told = Bag(clock, part), Bag(clock, told)
                if part.words:
                    for found, wanted in ((rest_behind(part, told), behinds), (rest_ahead(told, part), aheads)):
                        self.assertEqual(None if found is None else found.words,
                                         wanted.get((part.words, told.words)))

    def test_by_hand(self):
        self.assertEqual(rest_behind(bag(3, x=2), bag(3, xy=1)), bag(3, y=2))
        self.assertIsNone(rest_behind(bag(3, y=2), bag(3, xy=1)))
        self.assertEqual(rest_ahead(bag(3, xy=1), bag(3, y=2)), bag(3, x=2))
        self.assertIsNone(rest_ahead(bag(3, xy=1), bag(3, x=1)))
        self.assertIsNone(rest_behind(bag(2, x=1, one=1), bag(2, xy=1)))
        self.assertEqual(rest_behind(bag(5, one=2), bag(5, xy=1)), bag(5, xy=3))
        self.assertIsNone(rest_behind(bag(2, xy=1), one(2)))

    def test_nothing_is_divided(self):
        self.assertEqual(rest_behind(bag(3, x=1), nothing(3)), nothing(3))
        self.assertEqual(rest_ahead(nothing(3), bag(3, x=1)), nothing(3))

    def test_long_bags(self):
        front = Bag(7, {"x" * 12: 3, "y" * 11: 1})
        back = Bag(7, {"z" * 12: 2, "x": 5, "": 1})
        both = behind(behind(front, back), front)
        self.assertEqual(rest_behind(front, both), behind(back, front))
        self.assertEqual(rest_ahead(both, front), behind(front, back))
        self.assertIsNone(rest_behind(front, together(both, one(7))))

    def test_errors_in_their_order(self):
        for a, b in itertools.permutations(CLOCKS, 2):
            self.refuses(UnlikeClocks, rest_behind, bag(a, x=1), bag(b, x=1))
            self.refuses(UnlikeClocks, rest_ahead, bag(a, x=1), bag(b, x=1))
            self.refuses(IsNothing, rest_behind, nothing(a), bag(b, x=1))
            self.refuses(IsNothing, rest_ahead, bag(b, x=1), nothing(a))
            self.refuses(UnlikeClocks, rest_behind, bag(a, x=1), nothing(b))
            self.refuses(UnlikeClocks, rest_ahead, nothing(b), bag(a, x=1))
        self.refuses(IsNothing, rest_behind, nothing(2), nothing(2))
        self.refuses(IsNothing, rest_ahead, nothing(2), nothing(2))


class Bases(Case):

    def check(self, row):
        clock = row[0].clock
        found = self.answers(base, row)
        self.assertIs(type(found), list)
        firsts = []
        for part in found:
            self.assertIs(type(part), Bag)
            self.assertEqual((part.clock, part.words[0][1]), (clock, 1))
            firsts.append(part.words[0][0])
        self.assertEqual(firsts, sorted(set(firsts), key=rank))
        for part, own in zip(found, firsts):
            for head in firsts:
                if head != own:
                    self.assertFalse(any(word.startswith(head) for word, _ in part.words))
            told = made(row, part)
            self.assertEqual(summed(row, told), part.words)
        leaders = [(part.words,) for part in found]
        for part in row:
            self.assertEqual(left_over(clock, leaders, (part.words,)), ((),))
        return found

    def test_the_one_base(self):
        for row in random_rows(42):
            self.check(row)

    def test_it_stays_the_same(self):
        chance = chance_of(43)
        for row in random_rows(44, 6):
            clock = row[0].clock
            found = base(row)
            mixed = list(row)
            chance.shuffle(mixed)
            self.assertEqual(base(mixed), found)
            self.assertEqual(base([times(part, chance.randint(1, clock - 1)) for part in row]), found)
            if len(row) < 6:
                told = behind(row[0], random_bag(chance, clock, "xy", 2, 2))
                self.assertEqual(base([together(told, row[-1]), *row]), found)
            if len(row) > 1:
                told = behind(row[1], random_bag(chance, clock, "xy", 2, 2))
                self.assertEqual(base([together(row[0], told), *row[1:]]), found)
            if found and len(found) <= 6:
                self.assertEqual(base(found), found)

    def test_by_hand(self):
        self.assertEqual(base([bag(2, x=1), bag(2, xy=1, one=1)]), [one(2)])
        self.assertEqual(base([nothing(3)]), [])
        self.assertEqual(base((nothing(3),) * 6), [])
        self.assertEqual(base([bag(5, one=3), bag(5, x=1)]), [one(5)])
        self.assertEqual(base([bag(7, y=3), bag(7, x=2, y=1)]), [bag(7, x=1), bag(7, y=1)])
        self.assertEqual(base([bag(3, x=1), bag(3, yx=1), bag(3, yyx=2), bag(3, yyy=1)]),
                         [bag(3, yyx=1), bag(3, yyy=1), bag(3, yx=1), bag(3, x=1)])
        self.assertEqual(base([bag(2, xx=1, y=1), bag(2, xx=1, z=1), nothing(2)]),
                         [bag(2, xx=1, z=1), bag(2, y=1, z=1)])
        self.assertEqual(base([bag(5, xx=1, one=4), bag(5, xx=1, x=3, one=1)]), [bag(5, x=1, one=4)])

    def test_one_bag_and_six(self):
        for clock in CLOCKS:
            part = bag(clock, xy=1, y=clock - 1, one=1)
            self.assertEqual(base([times(part, clock - 1)]), [part])
            row = [Bag(clock, {word: 1, "z": 1}) for word in ("xx", "xy", "yx", "yy", "zx", "zz")]
            self.assertEqual(self.check(row[::-1]), row)

    def test_many_words(self):
        chance = chance_of(45)
        for clock in (2, 7):
            row = [random_bag(chance, clock, "xyz", 12, 300) for _ in range(6)]
            self.check(row)

    def test_no_row(self):
        for call in (base, idle):
            self.refuses_all_but(lambda thing: is_row(thing, 6), NoRow, call)
            for wrong in ([one(2)] * 7, (one(2), one(3)), [], {0: one(2)}, [one(2), None], [one(2), [one(2)]],
                          one(2), [deep(tuple)], [True]):
                self.refuses(NoRow, call, wrong)


class RestsOfRows(Case):

    def test_what_differs_by_a_sum_and_has_no_leading_words(self):
        chance = chance_of(46)
        for row in random_rows(47, 6):
            clock = row[0].clock
            for _ in range(3):
                part = random_bag(chance, clock, "xyz", 4, 6)
                found = self.answers(rest, row, part)
                self.assertIs(type(found), Bag)
                taken = made(row, less(part, found))
                self.assertEqual(summed(row, taken), less(part, found).words)
                for head in [told.words[0][0] for told in base(row)]:
                    self.assertFalse(any(word.startswith(head) for word, _ in found.words))

    def test_it_stays_the_same(self):
        chance = chance_of(48)
        for row in random_rows(49, 4):
            clock = row[0].clock
            part = random_bag(chance, clock, "xyz", 4, 6)
            told = Bag(clock, dict(summed(row, [random_bag(chance, clock, "xy", 2, 2) for _ in row])))
            self.assertEqual(rest(row, together(part, told)), rest(row, part))
            self.assertEqual(rest(row[::-1], part), rest(row, part))
            self.assertEqual(rest([times(other, clock - 1) for other in row], part), rest(row, part))
            self.is_bag(rest(row, told), clock, ())

    def test_by_hand(self):
        self.assertEqual(rest([bag(3, x=1, one=2)], bag(3, xx=1, y=1)), bag(3, y=1, one=1))
        self.assertEqual(rest([nothing(2)], bag(2, x=1)), bag(2, x=1))
        self.assertEqual(rest([one(2)], bag(2, x=1)), nothing(2))
        self.assertEqual(rest([bag(2, xy=1)], nothing(2)), nothing(2))


class Made(Case):

    def test_sums_are_made(self):
        chance = chance_of(51)
        for row in random_rows(52):
            clock = row[0].clock
            goal = Bag(clock, dict(summed(row, [random_bag(chance, clock, "xy", 2, 2) for _ in row])))
            for part in (goal, nothing(clock), *row):
                found = self.answers(made, row, part)
                self.assertIs(type(found), tuple)
                self.assertEqual(len(found), len(row))
                self.assertEqual(summed(row, found), part.words)
                self.assertIs(is_made(row, part, found), True)

    def test_none_just_where_there_is_none(self):
        chance = chance_of(53)
        for row in random_rows(54, 6):
            clock = row[0].clock
            for _ in range(3):
                part = random_bag(chance, clock, "xyz", 3, 3)
                leaders = [(told.words,) for told in base(row)]
                within = left_over(clock, leaders, (part.words,)) == ((),)
                found = made(row, part)
                self.assertEqual(found is not None, within)
                if within:
                    self.assertEqual(summed(row, found), part.words)

    def test_against_a_search_through_all_bags(self):
        # No word of one begins with the first word of another, so a sum needs no bags longer than itself less these.
        for row, most in (([bag(2, x=1, one=1), bag(2, y=1)], 1), ([bag(2, x=1, y=1)], 1), ([one(2)], 2),
                          ([bag(2, xy=1, y=1), bag(2, yx=1, one=1)], 0), ([nothing(2), bag(2, y=1, one=1)], 1)):
            bags = [Bag(2, table) for table in all_tables(2, "xy", most)]
            sums = {summed(row, told) for told in itertools.product(bags, repeat=len(row))}
            for table in all_tables(2, "xy", 2):
                part = Bag(2, table)
                self.assertEqual(made(row, part) is not None, part.words in sums)

    def test_judging(self):
        row = [bag(3, x=1), nothing(3), bag(3, xy=1, one=1)]
        part = bag(3, xx=2, x=1, xyy=1, y=1)
        right = (bag(3, x=2, one=1), bag(3, z=2), bag(3, y=1))
        self.assertIs(is_made(row, part, right), True)
        self.assertIs(is_made(tuple(row), part, (right[0], nothing(3), right[2])), True)
        for wrong in (list(right), right[:2], (*right, nothing(3)), (right[0], right[1], bag(3, y=2)), (),
                      (right[0], None, right[2]), (right[0], bag(2, z=1), right[2]), None, right[0],
                      (right[0], right[1], right[2].words), ((right[0], right[1], right[2]),), {0: right}):
            self.assertIs(is_made(row, part, wrong), False)
        self.assertIs(is_made([one(2)], nothing(2), (nothing(2),)), True)
        self.assertIs(is_made([one(2)], bag(2, x=1), None), False)

    def test_judging_odd_things(self):
        self.assertEqual(self.judges_oddly(is_made, [one(2)], one(2)), [(one(2),)])
        self.assertEqual(self.judges_oddly(is_made, [bag(2, x=1)], bag(2, y=1)), [])

    def test_none_is_not_right_where_there_is_none(self):
        self.assertIsNone(made([bag(2, x=1)], bag(2, y=1)))
        self.assertIs(is_made([bag(2, x=1)], bag(2, y=1), None), False)


class Refusing(Case):

    def test_no_row_then_unlike_clocks(self):
        def fits(thing):
            return is_row(thing, 6) and thing[0].clock == 2
        for call in (rest, made):
            for thing in odd_things():
                if is_row(thing, 6) and thing[0].clock == 3:
                    self.refuses(UnlikeClocks, call, thing, one(2))
                elif fits(thing):
                    call(thing, one(2))
                else:
                    self.refuses(NoRow, call, thing, one(2))
            self.refuses(NoRow, call, [one(2)] * 7, one(3))
            self.refuses(NoRow, call, [one(2), one(3)], one(5))
            self.refuses(UnlikeClocks, call, [one(2)], one(3))
            self.refuses(UnlikeClocks, call, [nothing(2)], nothing(3))

    def test_judging_raises_the_same_errors(self):
        for thing in odd_things():
            self.refuses(NoRow, is_made, [], one(2), thing)
            self.refuses(NoRow, is_made, [one(2)] * 7, one(3), thing)
            self.refuses(UnlikeClocks, is_made, [one(2)], one(3), thing)
            if not is_row(thing, 6):
                self.refuses(NoRow, is_made, thing, one(2), (one(2),))


class Idle(Case):

    def check(self, row):
        clock = row[0].clock
        found = self.answers(idle, row)
        self.assertIs(type(found), list)
        self.assertEqual(len(found), len(row) - len(base(row)))
        for told in found:
            self.assertIs(type(told), tuple)
            self.assertEqual(len(told), len(row))
            self.assertEqual(summed(row, told), ())
        return self.leads_apart(found)

    def test_the_one_list(self):
        for row in random_rows(61):
            self.check(row)

    def test_each_idle_tuple_is_a_sum(self):
        tables = [pairs(2, table) for table in all_tables(2, "xy", 1)]
        rows = [[bag(2, x=1), bag(2, x=1, one=1), bag(2, y=1)], [bag(2, x=1, y=1), nothing(2), bag(2, x=1, y=1)],
                [bag(2, xy=1, x=1), bag(2, x=1), one(2)], [bag(2, x=1), bag(2, y=1), nothing(2)]]
        for row in rows:
            found = self.check(row)
            for told in itertools.product(tables, repeat=3):
                if summed(row, [Bag(2, dict(words)) for words in told]) == ():
                    self.assertEqual(left_over(2, found, told), ((), (), ()))

    def test_idle_tuples_of_longer_rows_are_sums(self):
        for row in random_rows(63, 6):
            clock = row[0].clock
            found = self.check(row)
            if len(row) > 1:
                # What makes the first bag of the others gives an idle tuple, wherever it is there.
                others = made(row[1:], row[0])
                if others is not None:
                    told = (one(clock), *[times(part, -1) for part in others])
                    self.assertEqual(summed(row, told), ())
                    wanted = tuple(() for _ in row)
                    self.assertEqual(left_over(clock, found, [part.words for part in told]), wanted)
            both = continued(row[0], row[-1]) if row[0].words and row[-1].words and len(row) > 1 else None
            if both is not None:
                told = [nothing(clock) for _ in row]
                told[0] = rest_behind(row[0], both)
                told[-1] = times(rest_behind(row[-1], both), -1)
                self.assertEqual(left_over(clock, found, [part.words for part in told]), tuple(() for _ in row))

    def test_by_hand(self):
        self.assertEqual(idle([bag(2, x=1)]), [])
        self.assertEqual(idle([nothing(2)]), [(one(2),)])
        self.assertEqual(idle([nothing(5), nothing(5)]), [(one(5), nothing(5)), (nothing(5), one(5))])
        self.assertEqual(idle([bag(3, x=1), bag(3, xy=1)]), [(bag(3, y=1), bag(3, one=2))])
        self.assertEqual(idle([bag(3, xy=1), bag(3, x=1)]), [(one(3), bag(3, y=2))])
        self.assertEqual(idle([bag(7, one=2), bag(7, one=3)]), [(one(7), bag(7, one=4))])
        self.assertEqual(idle([bag(2, x=1), bag(2, y=1), nothing(2)]), [(nothing(2), nothing(2), one(2))])
        self.assertEqual(idle([bag(2, x=1), bag(2, y=1)]), [])

    def test_of_a_row_with_unlike_first_words_there_is_one_for_each_bag_too_many(self):
        found = idle([bag(5, x=1, one=k) if k else bag(5, x=1) for k in range(5)] + [one(5)])
        self.assertEqual(len(found), 5)


class TwoBags(Case):

    def two_bags(self, seed, many=20):
        chance = chance_of(seed)
        for clock in CLOCKS:
            yield bag(clock, x=1), bag(clock, y=1)
            yield one(clock), bag(clock, x=1, y=1)
            yield Bag(clock, {"": clock - 1}), one(clock)
            for turn in range(many):
                front = random_bag(chance, clock, "xy", 2, 3)
                a, b, c = [random_bag(chance, clock, "xyz", 1, 2) for _ in range(3)]
                # With ONE put to b a behind it, this has a common continuation with b.
                more = together(behind(a, b), one(clock))
                if turn % 3 == 0:
                    yield behind(front, a), behind(front, b)
                elif more.words:
                    yield behind(front, more), behind(front, a)
                else:
                    yield all_behind([front, a, b]), all_behind([front, a, c])

    def test_continued(self):
        there = 0
        for a, b in self.two_bags(71):
            found = self.answers(continued, a, b)
            if found is None:
                self.assertEqual(idle([a, b]), [])
                self.assertEqual(len(base([a, b])), 2)
            else:
                there += 1
                self.assertIs(type(found), Bag)
                self.assertEqual(found.words[0][1], 1)
                self.assertTrue(divides(a, found))
                self.assertTrue(divides(b, found))
                # A shorter one, or another one as long, would show by an idle pair.
                self.assertEqual(len(idle([a, b])), 1)
                self.assertEqual(continued(b, a), found)
                self.assertEqual(continued(times(a, -1), times(b, a.clock - 1)), found)
        self.assertGreater(there, 20)

    def test_continued_against_a_search(self):
        tables = [table for table in all_tables(2, "xy", 1) if table]
        small = [Bag(2, table) for table in tables]
        products = {part.words: {multiplied(part, other) for other in small} for part in small}
        for a, b in itertools.product(small, repeat=2):
            both = products[a.words] & products[b.words]
            found = continued(a, b)
            if found is None:
                self.assertEqual(both, set())
            for words in both:
                self.assertTrue(divides(found, Bag(2, dict(words))))

    def test_continued_by_hand(self):
        self.assertIsNone(continued(bag(2, x=1), bag(2, y=1)))
        self.assertEqual(continued(bag(3, x=2), bag(3, xy=2)), bag(3, xy=1))
        self.assertEqual(continued(bag(3, one=2), bag(3, xy=2)), bag(3, xy=1))
        self.assertEqual(continued(bag(2, x=1), bag(2, xy=1, one=1)), bag(2, xyx=1, x=1))
        self.assertEqual(continued(bag(5, x=1), bag(5, x=1, one=1)), bag(5, xx=1, x=1))

    def test_front_common(self):
        for a, b in self.two_bags(72, 12):
            found = self.answers(front_common, a, b)
            self.assertIs(type(found), Bag)
            both = [part for part in front_parts(a) if part in front_parts(b)]
            self.assertEqual(found, both[-1])
            for part in both:
                self.assertTrue(divides(part, found))
            self.assertEqual(front_common(b, a), found)
            if continued(a, b) is not None:
                self.assertEqual(base([a, b]), [found])

    def test_front_common_by_hand(self):
        self.assertEqual(front_common(bag(2, x=1), bag(2, y=1)), one(2))
        self.assertEqual(front_common(bag(3, xy=2), bag(3, xx=2)), bag(3, x=1))
        self.assertEqual(front_common(bag(3, one=2), bag(3, xx=2)), one(3))
        self.assertEqual(front_common(bag(7, xyx=1, x=1), bag(7, xyy=3, y=3)), bag(7, xy=1, one=1))

    def test_lots_of_knots(self):
        # The knots, reckoned from their description in point 4.1.
        for part in (Bag(2, {"yxyx": 1, "yx": 1}), all_behind([bag(5, x=1, one=k) for k in (1, 2, 3)]),
                     all_behind([bag(3, x=1), bag(3, yx=1, one=1), bag(3, x=1, y=1), bag(3, x=1, y=1, one=2)])):
            fronts = front_parts(part)
            within = {front.words: [other for other in fronts if divides(other, front)] for front in fronts}
            knots = []
            for front in fronts[1:]:
                own = [other for other in within[front.words] if other != front]
                if any(all(other in within[top.words] for other in own) for top in own):
                    knots.append(front.words)
            lots = {front.words: {knot for knot in knots if knot in [other.words for other in within[front.words]]}
                    for front in fronts}
            self.assertGreater(len(knots), 2)
            for a, b in itertools.product(fronts, repeat=2):
                self.assertEqual(lots[front_common(a, b).words], lots[a.words] & lots[b.words])
                self.assertEqual(lots[continued(a, b).words], lots[a.words] | lots[b.words])

    def test_errors_in_their_order(self):
        for call in (continued, front_common):
            for a, b in itertools.permutations(CLOCKS, 2):
                self.refuses(UnlikeClocks, call, bag(a, x=1), bag(b, x=1))
                self.refuses(IsNothing, call, nothing(a), bag(b, x=1))
                self.refuses(IsNothing, call, bag(a, x=1), nothing(b))
            self.refuses(IsNothing, call, nothing(2), nothing(2))

    def test_12_and_13_letters(self):
        edge = Bag(2, {"xy" * 6: 1, "": 1})
        long = behind(edge, bag(2, x=1))
        self.assertEqual(front_common(edge, edge), edge)
        self.assertEqual(front_common(edge, bag(2, xy=1, one=1)), bag(2, xy=1, one=1))
        for a, b in ((long, edge), (edge, long), (long, long), (long, bag(2, x=1)), (one(2), long)):
            self.assertEqual(self.refuses(TooLong, front_common, a, b).most, 12)
        self.refuses(IsNothing, front_common, long, nothing(3))
        self.refuses(UnlikeClocks, front_common, long, one(3))
        self.assertEqual(continued(long, edge), long)
        self.assertEqual(length(continued(behind(long, long), bag(2, xy=1, one=1))), 26)

    def test_plain_ones_are_told(self):
        for a, b in self.two_bags(73, 4):
            self.assertEqual(plain(front_common(a, b)), front_common(a, b))
            self.assertEqual(size(front_common(a, b).words), length(front_common(a, b)))


if __name__ == "__main__":
    unittest.main()
