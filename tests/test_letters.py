"""Two bags that tell the letters back: point 10.1."""

import itertools
import unittest

from frontparts.bags import Bag, behind, power, times, together
from frontparts.errors import NoLetters, TooLong, UnlikeClocks
from frontparts.letters import is_peelings, peelings, twist
from tests.tools import CLOCKS, Case, all_tables, bag, chance_of, deep, nothing, odd_things, one, plus, product
from tests.tools import random_bag, size
from tests.tools import times as number_times


def peeled(clock, pair, step):
    """The pair of tables to which a peeling leads."""
    if step == ("swap",):
        return pair[::-1]
    own, other = pair if step[0] == "first" else pair[::-1]
    for many, number in enumerate(step[1]):
        if number:
            own = plus(clock, own, number_times(clock, product(clock, *[other] * many), -number))
    return (own, other) if step[0] == "first" else (other, own)


def leads_to_letters(one_bag, other, steps):
    """Whether peelings lead to the letters, by the words of the document."""
    clock = one_bag.clock
    pair = (dict(one_bag.words), dict(other.words))
    most = max(1, size(one_bag.words), size(other.words))
    for step in steps:
        other = pair[step[0] == "first"]
        powers = [many for many, number in enumerate(step[-1]) if len(step) > 1 and number]
        # Such a power is not reckoned out: there is nothing as long that it could be taken off.
        if max(powers, default=0) * size(other.items()) > most:
            return False
        pair = peeled(clock, pair, step)
        if max(size(table.items()) for table in pair) > most:
            return False
    return (list(pair[0]), list(pair[1])) == (["x"], ["y"])


def number_of_twist(one_bag, other):
    """The number of the twist, by the words of the document; None if it is none."""
    clock = one_bag.clock
    straight = product(clock, one_bag.words, other.words)
    table = plus(clock, straight, number_times(clock, product(clock, other.words, one_bag.words), -1))
    number = table.get("xy", 0)
    return number if number and table == plus(clock, {"xy": number, "yx": -number}) else None


def random_pairs(seed, many=60):
    """Pairs that tell the letters back, of at most 12 letters, with few words."""
    chance = chance_of(seed)
    found = 0
    while found < many:
        clock = CLOCKS[found % 4]
        steps = []
        letters = [1, 1]
        for _ in range(chance.randint(1, 5)):
            at = chance.randrange(2)
            most = chance.choice([0, 1, 1, 2, 2, 3, 6, 12])
            if most * letters[1 - at] <= 12:
                letters[at] = max(letters[at], most * letters[1 - at])
                numbers = tuple(chance.randrange(clock) for _ in range(most)) + (chance.randint(1, clock - 1),)
                steps.append((("first", "second")[at], numbers))
            if chance.random() < 0.2:
                steps.append(("swap",))
                letters = letters[::-1]
        pair = pair_from(clock, steps[::-1])
        if pair is not None:
            found += 1
            yield pair


def pair_from(clock, steps):
    """The pair from which peelings lead to the letters, if callers can make it of words."""
    pair = ({"x": 1}, {"y": 1})
    for step in steps[::-1]:
        pair = peeled(clock, pair, step)
        if max(len(table) for table in pair) > 300:
            return None
    return Bag(clock, pair[0]), Bag(clock, pair[1])


class Peelings(Case):

    def check(self, part, other, wanted=None):
        """Checks what is told of two bags; whether they tell the letters back."""
        found = self.answers(peelings, part, other)
        if found is not None:
            self.assertIs(type(found), tuple)
            self.assertLessEqual(len(found), 200)
            self.assertTrue(leads_to_letters(part, other, found))
            for step in found:
                self.check_form(part.clock, step)
            self.assertIs(self.answers(is_peelings, part, other, found), True)
        number = self.answers(twist, part, other)
        self.assertEqual(number, number_of_twist(part, other))
        self.assertIs(found is None, number is None)
        if wanted is not None:
            self.assertIs(found is not None, wanted, (part.clock, part.words, other.words))
        return found is not None

    def check_form(self, clock, step):
        self.assertIs(type(step), tuple)
        if step != ("swap",):
            self.assertEqual(len(step), 2)
            self.assertIn(step[0], ("first", "second"))
            self.assertIs(type(step[1]), tuple)
            self.assertLessEqual(len(step[1]), 13)
            self.assertTrue(all(type(number) is int and 0 <= number < clock for number in step[1]))

    def test_all_small_pairs(self):
        for clock, most, step in ((2, 1, 1), (3, 1, 1), (2, 2, 13), (5, 1, 37)):
            bags = [Bag(clock, table) for table in all_tables(clock, "xy", most)]
            several = 0
            for part, other in itertools.islice(itertools.product(bags, repeat=2), 0, None, step):
                several += self.check(part, other)
            self.assertGreater(several, 5)

    def test_pairs_made_of_the_letters(self):
        lengths = set()
        for part, other in random_pairs(1601, 100):
            self.check(part, other, True)
            lengths.add((size(part.words), size(other.words)))
        self.assertGreater(len(lengths), 15)
        self.assertEqual(max(max(pair) for pair in lengths), 12)

    def test_such_pairs_with_one_word_changed(self):
        chance = chance_of(1602)
        for part, other in random_pairs(1603):
            word = "".join(chance.choice("xy") for _ in range(chance.randint(1, 3)))
            self.check(together(part, Bag(part.clock, {word: 1})), other)
            self.check(part, together(other, Bag(part.clock, {word: 1})))

    def test_other_pairs(self):
        chance = chance_of(1604)
        for turn in range(80):
            clock = CLOCKS[turn % 4]
            self.check(random_bag(chance, clock, "xy", 3, 3), random_bag(chance, clock, "xy", 4, 3))

    def test_by_hand(self):
        for clock in CLOCKS:
            x, y = bag(clock, x=1), bag(clock, y=1)
            self.check(x, y, True)
            self.check(y, x, True)
            self.check(times(y, -1), bag(clock, x=1, one=1), True)
            self.check(x, bag(clock, y=1, xx=1), True)
            self.check(bag(clock, x=1, y=1), bag(clock, x=1, y=clock - 1), clock > 2)
            for none in ((x, x), (x, nothing(clock)), (nothing(clock), nothing(clock)), (one(clock), one(clock)), (one(clock), y),
                         (x, bag(clock, yy=1)), (x, bag(clock, y=1, xy=1)), (bag(clock, x=1, y=1), bag(clock, x=clock - 1, y=clock - 1)),
                         (bag(clock, xx=1), bag(clock, yy=1)), (x, bag(clock, x=1, xx=1)), (bag(clock, xy=1), bag(clock, yx=1)),
                         (bag(clock, xy=1, x=1), bag(clock, xy=1, one=1)), (bag(clock, xx=1, x=1), bag(clock, xx=1))):
                self.check(*none, False)

    def test_the_number_of_the_twist(self):
        for clock in CLOCKS:
            x, y = bag(clock, x=1), bag(clock, y=1)
            for a in range(1, clock):
                for b in range(1, clock):
                    self.assertEqual(twist(times(x, a), times(y, b)), a * b % clock)
                    self.assertEqual(twist(times(y, b), bag(clock, x=a, one=1)), -a * b % clock)
            self.assertEqual(twist(x, bag(clock, y=1, xx=1)), 1)
            self.assertIsNone(twist(x, x))
            self.assertIsNone(twist(x, bag(clock, yy=1)))
        self.assertEqual(twist(bag(7, x=2, y=3), bag(7, x=1, y=4)), 5)

    def test_12_letters_with_as_many_words_as_can_be(self):
        for clock in (2, 7):
            both = bag(clock, x=1, y=1)
            part = together(bag(clock, y=1), together(power(both, 12), power(both, 6)))
            other = together(both, part)
            self.assertGreater(len(part.words), 300)
            for a, b, number in ((both, part, 1), (part, both, clock - 1), (part, other, clock - 1), (other, part, 1)):
                found = peelings(a, b)
                self.assertIs(is_peelings(a, b, found), True)
                self.assertEqual(twist(a, b), number)
            self.assertIsNone(peelings(part, together(other, bag(clock, xy=1))))
            self.assertIsNone(twist(part, together(other, bag(clock, xy=1))))

    def test_longer_bags_have_a_twist(self):
        for clock in CLOCKS:
            x, y = bag(clock, x=1), bag(clock, y=1)
            long = power(bag(clock, xxx=1), 12)
            self.assertEqual(twist(x, together(y, long)), 1)
            self.assertEqual(twist(together(y, long), x), clock - 1)
            self.assertEqual(twist(together(x, together(y, long)), together(y, long)), 1)
            self.assertIsNone(twist(y, together(y, long)))
            self.assertIsNone(twist(bag(clock, x=1, y=1), long))
            self.assertIsNone(twist(behind(long, y), together(long, y)))


class Judging(Case):

    def test_peelings_of_many_kinds(self):
        chance = chance_of(1611)
        answers = [0, 0]
        for part, other in random_pairs(1612, 80):
            clock = part.clock
            steps = list(peelings(part, other))
            for _ in range(6):
                mixed = list(steps)
                at = chance.randint(0, len(mixed))
                numbers = tuple(chance.randrange(clock) for _ in range(chance.randint(0, 3)))
                name = chance.choice(("first", "second"))
                turned = tuple(-number % clock for number in numbers)
                more = chance.choice(([("swap",)], [("swap",)] * 2, [(name, numbers)], [(name, numbers), (name, turned)], [],
                                      [(name, ())], [(name, (0,) * 13)]))
                mixed[at:at + chance.choice((0, 0, 0, 1))] = more
                answer = is_peelings(part, other, tuple(mixed))
                self.assertIs(answer, leads_to_letters(part, other, mixed))
                answers[answer] += 1
        self.assertGreater(min(answers), 50)

    def test_by_hand(self):
        x, y = bag(3, x=1), bag(3, y=1)
        self.assertIs(is_peelings(x, y, ()), True)
        self.assertIs(is_peelings(times(x, 2), times(y, 2), ()), True)
        self.assertIs(is_peelings(y, x, ()), False)
        self.assertIs(is_peelings(y, x, (("swap",),)), True)
        self.assertIs(is_peelings(x, bag(3, y=1, one=1), (("second", (1,)),)), True)
        self.assertIs(is_peelings(x, bag(3, y=1, one=1), (("second", (2,)),)), False)
        self.assertIs(is_peelings(x, bag(3, y=1, one=1), (("first", (1,)),)), False)
        self.assertIs(is_peelings(x, bag(3, y=1, x=1), (("second", (0, 1)),)), True)
        self.assertIs(is_peelings(x, bag(3, y=1, xx=2), (("second", (0, 0, 2)),)), True)
        self.assertIs(is_peelings(x, bag(3, y=1, xx=2), (("second", (0, 0, 2)), ("swap",))), False)
        self.assertIs(is_peelings(nothing(3), nothing(3), ()), False)

    def test_no_bag_on_the_way_is_longer_than_both_at_first(self):
        x, y = bag(2, x=1), bag(2, y=1)
        there_and_back = (("first", (0, 0, 1)), ("first", (0, 0, 1)))
        self.assertIs(is_peelings(x, y, there_and_back), False)
        self.assertIs(is_peelings(x, y, (("first", (0, 1)), ("first", (0, 1)))), True)
        long = bag(2, x=1, yyy=1)
        self.assertIs(is_peelings(long, y, (*there_and_back, ("first", (0, 0, 0, 1)))), True)
        self.assertIs(is_peelings(long, y, (("first", (0, 0, 0, 1)), *there_and_back)), True)
        self.assertIs(is_peelings(long, y, (("first", (0, 0, 0, 0, 1)),) * 2 + (("first", (0, 0, 0, 1)),)), False)
        # The longer one may be longer on the way, if it stays within what was the longer one at first.
        self.assertIs(is_peelings(y, long, (("swap",), ("first", (0, 0, 0, 1)))), True)
        # Numbers alone have no length to speak of, but one letter is always let.
        self.assertIs(is_peelings(x, one(2), (("second", (1,)), ("swap",))), False)
        # The powers are not so much as looked at.
        full = Bag(2, {"x" * 12: 1, "y" * 12: 1, "x": 1, "y": 1})
        self.assertIs(is_peelings(full, y, (("second", (0,) * 12 + (1,)), ("first", (0,) * 12 + (1,)))), False)

    def test_200_peelings_are_let_and_201_are_not(self):
        x, y = bag(5, x=1), bag(5, y=1)
        for many, wanted in ((200, True), (202, False), (201, False), (199, False), (20000, False)):
            self.assertIs(is_peelings(x, y, (("swap",),) * many), wanted)
        self.assertIs(is_peelings(y, x, (("swap",),) * 199), True)
        self.assertIs(is_peelings(y, x, (("swap",),) * 201), False)

    def test_13_numbers_are_let_and_14_are_not(self):
        x = bag(5, x=1)
        part = Bag(5, {"y": 1, "x" * 12: 4})
        self.assertIs(is_peelings(x, part, (("second", (0,) * 12 + (4,)),)), True)
        self.assertIs(is_peelings(x, part, (("second", (0,) * 12 + (4, 0)),)), False)
        self.assertIs(is_peelings(x, bag(5, y=1), (("second", (0,) * 13),)), True)
        self.assertIs(is_peelings(x, bag(5, y=1), (("second", (0,) * 14),)), False)

    def test_right_peelings_with_one_thing_changed(self):
        x, part = bag(3, x=1), bag(3, y=1, xx=2, one=1)
        right = ("second", (1, 0, 2))
        self.assertIs(is_peelings(x, part, (right,)), True)
        for wrong in ([right], right, (), (list(right),), (("second", [1, 0, 2]),), (("second", (1, 3, 2)),), (("second", (1, -3, 2)),),
                      (("second", (4, 0, 2)),), (("second", (True, 0, 2)),), (("second", (1, False, 2)),), (("second", (1, None, 2)),),
                      (("second", 1, 0, 2),), (("second",),), (("second", (1, 0, 2), ()),), (("Second", (1, 0, 2)),),
                      (("third", (1, 0, 2)),),
                      ((1, (1, 0, 2)),), ((None, (1, 0, 2)),), ((("second",), (1, 0, 2)),), ((b"second", (1, 0, 2)),), (right, None),
                      (right, ()), (right, "swap"), (right, ("swap", ())), (right, ("swap", (0,))), (right, ["swap"]), (right, ("first",)),
                      (right, right), (right, deep(tuple, 39)), (deep(list, 39),), ((deep(dict, 38), (1, 0, 2)),),
                      (("second", (deep(tuple, 37),)),), {0: right}, None, x, (x,), (x, part)):
            self.assertIs(is_peelings(x, part, wrong), False)
        # The number of ONE may be told as 1 alone.
        self.assertIs(is_peelings(x, bag(3, y=1, one=1), (("second", (1,)),)), True)
        for wrong in ((-2,), (4,), (1, 0, -3), (1, 3), (True,), (1, False)):
            self.assertIs(is_peelings(x, bag(3, y=1, one=1), (("second", wrong),)), False)
        self.assertIs(is_peelings(x, bag(3, y=1, one=2), (("second", (-1,)),)), False)
        self.assertIs(is_peelings(bag(3, y=1), x, (("swap",),)), True)
        for wrong in (("swap", ()), ("third", ()), ("", ()), ("third",), (None,), (("swap",),), ("swap", "swap"), (b"swap",), ("swa",)):
            self.assertIs(is_peelings(bag(3, y=1), x, (wrong,)), False)

    def test_things_of_all_kinds(self):
        self.assertEqual(self.judges_oddly(is_peelings, bag(2, x=1), bag(2, y=1)), [()])
        self.assertEqual(self.judges_oddly(is_peelings, bag(7, y=1), bag(7, x=1)), [])
        self.assertEqual(self.judges_oddly(is_peelings, nothing(7), one(7)), [])
        for thing in odd_things():
            for steps in ((thing,), (("first", thing),), (("second", (thing,)),), ((thing, ()),), (("swap",), (thing,))):
                answer = is_peelings(bag(2, x=1), bag(2, y=1), steps)
                fits = all(type(step) is tuple and len(step) == 2 for step in steps) and steps[0][0] in ("first", "second")
                if not fits:
                    self.assertIs(answer, False)

    def test_bags_of_more_than_12_letters(self):
        x = bag(3, x=1)
        long = together(bag(3, y=1), power(bag(3, x=1), 12))
        self.assertIs(is_peelings(x, together(long, behind(power(x, 12), x)), (("second", (0,) * 12 + (1,)),)), False)
        base = bag(3, x=1, yy=1)
        wide = together(bag(3, y=1), power(base, 12))
        self.assertIs(is_peelings(base, wide, (("second", (0,) * 12 + (1,)), ("first", (0, 0, 1)))), True)
        self.assertIs(is_peelings(base, wide, (("second", (0,) * 12 + (2,)), ("first", (0, 0, 1)))), False)


class Refusing(Case):

    def test_errors_in_their_order(self):
        calls = [lambda part, other, thing=thing: is_peelings(part, other, thing) for thing in (None, (), deep(tuple), 7)]
        calls += [peelings, twist]
        for call in calls:
            for a, b in itertools.permutations(CLOCKS, 2):
                for part in (nothing(a), one(a), bag(a, x=1), bag(a, z=1), Bag(a, {"z" * 12: 1})):
                    for other in (nothing(b), one(b), bag(b, y=1), bag(b, xyz=1)):
                        self.refuses(UnlikeClocks, call, part, other)
            for clock in CLOCKS:
                long = power(bag(clock, xyx=1), 5)
                for other in (nothing(clock), one(clock), bag(clock, x=1), long):
                    for part in (bag(clock, z=1), bag(clock, x=1, z=1), behind(long, bag(clock, z=1))):
                        self.refuses(NoLetters, call, part, other)
                        self.refuses(NoLetters, call, other, part)
                        self.refuses(NoLetters, call, part, part)

    def test_13_letters(self):
        for clock in CLOCKS:
            edge = Bag(clock, {"x" * 12: 1, "y": 1})
            long = Bag(clock, {"x" * 12: 1})
            long = together(behind(long, bag(clock, x=1)), bag(clock, y=1))
            for other in (nothing(clock), one(clock), bag(clock, x=1), edge, long):
                self.assertEqual(self.refuses(TooLong, peelings, long, other).most, 12)
                self.assertEqual(self.refuses(TooLong, peelings, other, long).most, 12)
            self.assertIsNotNone(peelings(edge, bag(clock, x=1)))
            self.assertEqual(twist(bag(clock, x=1), long), 1)
            self.assertIs(is_peelings(bag(clock, x=1), long, ()), False)


if __name__ == "__main__":
    unittest.main()
