"""Knots, befores and lots: points 4.1 and 4.2."""

import itertools
import unittest

from frontparts.bags import Bag, all_behind, behind, plain, times
from frontparts.errors import NoLot, NoPart
from frontparts.fronts import front_parts
from frontparts.rows import continued, front_common
from frontparts.webs import befores, knots, lot_of, many_parts, part_of
from tests.samples import CHAIN, F, FLAT, MANY, MOST, Plan, line, lines, many_webs, plain_examples
from tests.tools import CLOCKS, Case, all_products, bag, chance_of, deep, nothing, odd_things, one, size


def ordinary(seed):
    return [*plain_examples(), *many_webs(seed, 20), *many_webs(seed + 1, 16, least=3)]


class Knots(Case):

    def test_by_the_words_of_the_document(self):
        for part in ordinary(401):
            plan = Plan(part)
            found = self.answers(knots, part)
            self.assertEqual(found, plan.knots)
            self.assertIs(type(found), list)
            pairs = self.answers(befores, part)
            self.assertEqual(pairs, plan.befores)
            self.assertIs(type(pairs), list)
            self.assertTrue(all(type(pair) is tuple and type(pair[0]) is int for pair in pairs))
            self.assertEqual(self.answers(many_parts, part), len(plan.parts))

    def test_small_bags_by_all_their_products(self):
        for clock, letters, most in ((2, "xy", 3), (2, "x", 5), (3, "x", 4), (5, "x", 3), (7, "x", 3), (3, "xy", 2)):
            products = {many: all_products(clock, letters, many) for many in range(1, most + 1)}

            def fronts(words):
                return {front for front, _ in products[size(words)].get(words, [])} | {(("", 1),)}

            for words in chance_of(402).sample(sorted(products[most]), min(60, len(products[most]))):
                whole = fronts(words) | {words}
                wanted = {front for front in whole if size(front) > 0 and any(
                    fronts(front) == (fronts(top) if size(top) > 0 else set()) | {top} for top in fronts(front))}
                part = Bag(clock, dict(words))
                found = knots(part)
                self.assertEqual({knot.words for knot in found}, wanted)
                self.assertEqual(many_parts(part), len(whole))
                self.assertEqual(befores(part), [
                    (i, j) for i, j in itertools.permutations(range(len(found)), 2)
                    if found[i].words in fronts(found[j].words)])

    def test_by_hand(self):
        y, yx, yx1 = bag(2, y=1), bag(2, yx=1), bag(2, yx=1, one=1)
        self.assertEqual((knots(F), befores(F), many_parts(F)), ([y, yx, yx1], [(0, 1)], 6))
        self.assertEqual(knots(CHAIN), [Bag(5, {"x" * many: 1}) for many in (1, 2, 3, 4)])
        self.assertEqual(befores(CHAIN), [(0, 1), (0, 2), (0, 3), (1, 2), (1, 3), (2, 3)])
        self.assertEqual(knots(FLAT), [line(3, 0), line(3, 1), line(3, 2)])
        self.assertEqual((befores(FLAT), many_parts(FLAT)), ([], 8))
        self.assertEqual((knots(bag(7, xy=3, one=2)), befores(bag(7, xy=3, one=2))), ([bag(7, xy=1, one=3)], []))

    def test_numbers_alone(self):
        for clock in CLOCKS:
            for number in range(1, clock):
                part = bag(clock, one=number)
                self.assertEqual((knots(part), befores(part), many_parts(part)), ([], [], 1))

    def test_a_number_makes_no_difference(self):
        for part in many_webs(403, 12, least=2):
            other = times(part, -1)
            self.assertEqual(knots(other), knots(part))
            self.assertEqual(befores(other), befores(part))

    def test_many_front_parts_of_12_letters(self):
        self.assertEqual(many_parts(MOST), 3 ** 5 * 2 ** 2)
        found = knots(MOST)
        self.assertEqual(found[:7], [line(7, number) for number in range(7)])
        # The squares are ordered by the doubled numbers.
        self.assertEqual(found[7:], [lines(7, (number, number)) for number in (0, 4, 1, 2, 3)])
        self.assertEqual(befores(MOST), [(0, 7), (1, 9), (2, 10), (3, 11), (4, 8)])
        self.assertEqual((many_parts(MANY), len(befores(MANY))), (4 ** 2 * 3 ** 3, 3 * 2 + 1 * 3))
        self.assertEqual(befores(Bag(7, {"xy" * 6: 1})), list(itertools.combinations(range(12), 2)))


class Lots(Case):

    def test_each_lot_has_just_one_front_part(self):
        for part in ordinary(411):
            plan = Plan(part)
            self.assertEqual(len(set(plan.lots)), len(plan.parts))
            for front, lot in zip(plan.parts, plan.lots):
                found = self.answers(lot_of, part, front)
                self.assertEqual(found, lot)
                self.assertIs(type(found), tuple)
                self.is_bag(self.answers(part_of, part, lot), part.clock, front.words)
            many = len(plan.knots)
            rows = [row for size_ in range(many + 1) for row in itertools.combinations(range(many), size_)]
            for row in rows:
                closed = all(i in row for i, j in plan.befores if j in row)
                self.assertEqual(row in plan.lots, closed)
                if not closed:
                    self.refuses(NoLot, part_of, part, row)

    def test_common_parts_and_continuations(self):
        for part in [F, FLAT, CHAIN, *many_webs(412, 3, least=2)]:
            for a, b in itertools.combinations(front_parts(part), 2):
                both = set(lot_of(part, a)) & set(lot_of(part, b))
                either = set(lot_of(part, a)) | set(lot_of(part, b))
                self.assertEqual(lot_of(part, front_common(a, b)), tuple(sorted(both)))
                self.assertEqual(lot_of(part, continued(a, b)), tuple(sorted(either)))

    def test_by_hand(self):
        self.assertEqual([lot_of(F, front) for front in front_parts(F)],
                         [(), (0,), (0, 1), (2,), (0, 2), (0, 1, 2)])
        self.assertEqual(part_of(F, (0, 2)), bag(2, yxy=1, y=1))
        self.assertEqual(part_of(times(FLAT, 2), (0, 1, 2)), FLAT)
        self.assertEqual(lot_of(FLAT, behind(line(3, 0), line(3, 2))), (0, 2))
        for clock in CLOCKS:
            part = bag(clock, one=clock - 1)
            self.assertEqual((lot_of(part, one(clock)), part_of(part, ())), ((), one(clock)))

    def test_many_front_parts_of_12_letters(self):
        lot = (0, 2, 3, 5, 6, 7, 11)
        front = lines(7, (0, 2, 3, 5, 6, 0, 3))
        self.assertEqual(part_of(MOST, lot), front)
        self.assertEqual(lot_of(MOST, front), lot)
        self.refuses(NoLot, part_of, MOST, (0, 8))
        self.refuses(NoPart, lot_of, MOST, lines(7, (5, 5)))
        self.assertEqual(part_of(MANY, tuple(range(12))), MANY)

    def test_no_part(self):
        self.refuses_all_but(lambda thing: type(thing) is Bag and thing == one(2), NoPart,
                             lambda thing: lot_of(bag(2, y=1), thing))
        part = times(behind(line(3, 1), line(3, 2, "yx")), 2)
        front = line(3, 1)
        self.assertEqual(lot_of(part, front), (0,))
        self.assertEqual(lot_of(part, plain(part)), (0, 1))
        for wrong in (times(front, 2), part, Bag(5, {"x": 1, "": 1}), line(3, 2), line(3, 2, "yx"), [front], (front,),
                      front.words, behind(plain(part), front), nothing(3), bag(3, one=2), None, True):
            self.refuses(NoPart, lot_of, part, wrong)

    def test_no_lot(self):
        for part in (F, FLAT, bag(2, x=1), one(5)):
            lots = Plan(part).lots
            self.refuses_all_but(
                lambda thing: type(thing) is tuple and all(type(k) is int for k in thing) and thing in lots,
                NoLot, lambda thing: part_of(part, thing))
        for wrong in ([0, 1], (1, 0), (0, 0), (0, 1, 1), (1,), (0, 3), (-1,), (-1, 0), (0, True), (False,), (False, 1),
                      ("0",), ((0,),), (0, None), (0, (1,)), {0: 1}, 0, None, deep(tuple), (deep(list, 39),),
                      (0, deep(dict, 39)), tuple(range(20000)), (0,) * 20000, (10 ** 40,), (0, 1 - 10 ** 40)):
            self.refuses(NoLot, part_of, F, wrong)
        self.refuses(NoLot, part_of, one(2), (0,))

    def test_wrong_things_of_all_kinds_beside_right_ones(self):
        for thing in odd_things():
            if not (type(thing) is int and thing == 2):
                self.refuses(NoLot, part_of, F, (0, 1, thing))


class Refusing(Case):

    def test_the_errors_of_front_parts_come_first(self):
        for call in (knots, befores, many_parts):
            self.splits_first(call)
        for call in (lot_of, part_of):
            for thing in (None, (), (9,), one(3), deep(tuple)):
                self.splits_first(call, thing)

    def test_12_letters(self):
        part = Bag(5, {"xyzxyzxyzxyx": 1, "": 2})
        self.assertEqual((knots(part), befores(part), many_parts(part)), ([part], [], 2))
        self.assertEqual((lot_of(part, part), part_of(part, (0,))), ((0,), part))
        twelve = all_behind([bag(2, x=1, y=1)] * 12)
        self.assertEqual((len(twelve.words), many_parts(twelve)), (4096, 13))


if __name__ == "__main__":
    unittest.main()
