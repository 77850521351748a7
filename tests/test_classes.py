"""Classes of alike bags and of knots: point 6.3."""

import itertools
import unittest

from frontparts.alikes import alike
from frontparts.bags import Bag, all_behind, behind, times
from frontparts.classes import alike_classes, knot_classes
from frontparts.errors import IsNumber, NoRow, TooLong
from frontparts.exchanges import factors_at
from frontparts.ways import way_at
from tests.samples import CHAIN, F, FLAT, MANY, Plan, line, lines, many_webs, plain_examples
from tests.tools import CLOCKS, Case, bag, chance_of, deep, is_row, nothing, odd_things, one, random_bag
from tests.tools import size


def classes_of(bags):
    """The classes by asking of each pair."""
    found = []
    for place, part in enumerate(bags):
        fitting = [row for row in found if all(alike(bags[other], part) is not None for other in row)]
        if fitting:
            fitting[0].append(place)
        else:
            found.append([place])
    return sorted(tuple(row) for row in found)


class Classes(Case):

    def test_each_place_with_those_of_alike_bags(self):
        chance = chance_of(1201)
        for turn in range(40):
            clock = CLOCKS[turn % 4]
            row = [line(clock, 1, chance.choice(("xy", "yx"))), line(clock, chance.randint(0, 1)), line(clock, 1),
                   lines(clock, (0, 1)), lines(clock, (1, 0)), random_bag(chance, clock, "xy", 2, 3, 1)]
            row += [times(row[chance.randint(0, 5)], -1), line(clock, 1, "yx")]
            chance.shuffle(row)
            for bags in (row, row[:5], row[:1], tuple(row)):
                found = self.answers(alike_classes, bags)
                self.assertIs(type(found), list)
                self.assertTrue(all(type(places) is tuple for places in found))
                self.assertEqual(found, classes_of(bags))
                self.assertEqual(sorted(place for places in found for place in places), list(range(len(bags))))
                self.assertTrue(all(places == tuple(sorted(places)) for places in found))

    def test_by_hand(self):
        x, y = bag(2, x=1), bag(2, y=1)
        xy1, yx1 = line(2, 1, "xy"), line(2, 1, "yx")
        self.assertEqual(alike_classes([x]), [(0,)])
        self.assertEqual(alike_classes([x, y, x]), [(0, 2), (1,)])
        self.assertEqual(alike_classes((y, xy1, x, yx1, y, xy1)), [(0, 4), (1, 3, 5), (2,)])
        self.assertEqual(alike_classes([yx1] * 8), [tuple(range(8))])
        self.assertEqual(alike_classes([line(7, number) for number in range(7)]), [(number,) for number in range(7)])
        self.assertEqual(alike_classes([behind(x, yx1), behind(xy1, x), behind(x, xy1)]), [(0, 1), (2,)])

    def test_6_letters(self):
        bags = [Bag(3, {"xxxxxy": 1, "": 1}), Bag(3, {"yxxxxx": 1, "": 1}), Bag(3, {"xxxxxx": 1}),
                lines(3, (0, 0, 1, 1, 2, 2)), lines(3, (2, 1, 0, 2, 1, 0))]
        self.assertEqual(alike_classes(bags), [(0, 1), (2,), (3, 4)])

    def test_no_row(self):
        for thing in odd_things():
            if thing == (one(2),):
                self.refuses(IsNumber, alike_classes, thing)
            elif is_row(thing, 8) and nothing(thing[0].clock) not in thing:
                alike_classes(thing)
            else:
                self.refuses(NoRow, alike_classes, thing)
        x = bag(2, x=1)
        for thing in (x, {0: x}, [], (), [x] * 9, (x,) * 9, [None], [x, bag(3, x=1)], [x, None], [[x]], [x, (x,)],
                      [nothing(2)], [x, nothing(2)], [x] * 7 + [nothing(2)], deep(list), [deep(list, 39)], [x] * 20000):
            self.refuses(NoRow, alike_classes, thing)

    def test_errors_in_their_order(self):
        for clock in CLOCKS:
            x, number, long = bag(clock, x=1), bag(clock, one=clock - 1), Bag(clock, {"yxyxyxy": 1})
            for row in ([number, nothing(clock)], [long, nothing(clock)], [number] * 9, [long] * 9, (number, long, None),
                        [number, one(3 if clock == 2 else 2)], [long, bag(3 if clock == 2 else 2, x=1)]):
                self.refuses(NoRow, alike_classes, row)
            for row in ([number], [x, number], [long, number], (number, long), [x] * 7 + [number]):
                self.refuses(IsNumber, alike_classes, row)
            for row in ([long], (x, long), [long, x], [x] * 7 + [long], [long] * 8):
                self.assertEqual(self.refuses(TooLong, alike_classes, row).most, 6)


class KnotClasses(Case):

    def test_the_least_knot_that_is_alike(self):
        several = 0
        for part in [*plain_examples(), *many_webs(1211, 16), *many_webs(1212, 24, least=3)]:
            found = self.answers(knot_classes, part)
            self.assertIs(type(found), list)
            self.assertTrue(all(type(knot) is int for knot in found))
            bags = [factors_at(part, knot) for knot in range(len(Plan(part).knots))]
            for knot, row in enumerate(bags):
                for turned in (0, -1):
                    least = min(other for other in range(knot + 1)
                                if alike(bags[other][turned], row[-1 - turned]) is not None)
                    self.assertEqual(found[knot], least)
                several += found[knot] < knot
        self.assertGreater(several, 10)

    def test_by_hand(self):
        self.assertEqual((knot_classes(F), knot_classes(FLAT), knot_classes(CHAIN)), ([0, 1, 2], [0, 1, 2], [0] * 4))
        # The lines 0 to 4, and their powers as they are ordered.
        self.assertEqual(knot_classes(lines(5, (0, 0, 1, 1, 2))), [0, 1, 2, 0, 1])
        self.assertEqual(knot_classes(all_behind([line(2, 1, "xy"), bag(2, z=1), line(2, 1, "yx")])), [0, 1, 0])
        self.assertEqual(knot_classes(times(bag(7, xyx=1), 3)), [0, 1, 0])
        for clock in CLOCKS:
            self.assertEqual(knot_classes(bag(clock, one=clock - 1)), [])

    def test_12_letters(self):
        self.assertEqual(knot_classes(Bag(7, {"xyz" * 4: 1})), [0, 1, 2] * 4)
        found = knot_classes(MANY)
        self.assertEqual((found[:5], len(found), sorted(found)), ([0, 1, 2, 3, 4], 12, [0] * 3 + [1] * 3 + [2, 2, 3, 3, 4, 4]))

    def test_bags_of_6_letters_and_of_7_in_the_first_way(self):
        for clock in CLOCKS:
            six, seven = Bag(clock, {"xxxxxy": 1, "": 1}), Bag(clock, {"xxxxxxy": 1, "": 1})
            self.assertEqual(knot_classes(six), [0])
            self.assertEqual(knot_classes(behind(six, six)), [0, 0])
            for part in (seven, behind(seven, line(clock, 0)), behind(bag(clock, z=1), seven), behind(line(clock, 1), seven)):
                self.assertEqual(max(size(factor.words) for factor in way_at(part, 0)), 7)
                self.assertEqual(self.refuses(TooLong, knot_classes, part).most, 6)

    def test_the_errors_of_front_parts_come_first(self):
        self.splits_first(knot_classes)
        self.assertEqual(self.refuses(TooLong, knot_classes, Bag(2, {"x" * 11 + "y": 1, "": 1})).most, 6)


if __name__ == "__main__":
    unittest.main()
