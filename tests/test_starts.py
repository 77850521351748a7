"""Lots of words with which all long words begin: point 9.1."""

import itertools
import unittest

from frontparts.bags import Bag, behind, less, power, times
from frontparts.errors import NoAlphabet, NoLetters, NoNumber
from frontparts.starts import beginnings, is_full, unmet
from tests.tools import CLOCKS, Case, all_tables, bag, chance_of, deep, is_integer, multiplied, nothing, odd_things, one
from tests.tools import pairs, plus, random_bag, size

ALPHABETS = ("xy", "xyz")


def words_of(alphabet, letters):
    return ["".join(word) for word in itertools.product(alphabet, repeat=letters)]


def at_beginnings(part, word):
    """What the numbers of the beginnings of a word come together to."""
    table = dict(part.words)
    return sum(table.get(word[:many], 0) for many in range(len(word) + 1)) % part.clock


def meets_all(alphabet, part):
    """Whether a bag is full. What is as long as the bag is long enough: longer words have no other beginnings in it."""
    return all(at_beginnings(part, word) == 1 for word in words_of(alphabet, max(0, size(part.words))))


def full_bag(chance, clock, alphabet, most=2, many=4):
    """A full bag, told by what is before it, and this."""
    before = random_bag(chance, clock, alphabet, most, many)
    letters = Bag(clock, {letter: 1 for letter in alphabet})
    return less(one(clock), behind(before, less(one(clock), letters))), before


def some_bags(seed, many=80):
    """Pairs of an alphabet and a bag, about half of which are full."""
    chance = chance_of(seed)
    for turn in range(many):
        alphabet = ALPHABETS[turn % 2]
        clock = CLOCKS[turn // 2 % 4]
        part, _ = full_bag(chance, clock, alphabet)
        if turn % 16 > 7:
            word = chance.choice(words_of(alphabet, chance.randint(0, 3)))
            part = Bag(clock, plus(clock, part.words, {word: chance.randint(1, clock - 1)}))
        yield alphabet, part
    for clock in CLOCKS:
        for alphabet in ALPHABETS:
            for part in (nothing(clock), one(clock), bag(clock, one=clock - 1), bag(clock, x=1), bag(clock, x=1, y=1),
                         bag(clock, x=1, y=1, one=1), bag(clock, x=1, y=1, xx=clock - 1)):
                yield alphabet, part


def prefix_code(chance, alphabet, steps):
    """A dict of words none of which begins with another one, and with which all long words begin; what is before it."""
    words, before = [""], []
    for _ in range(steps):
        word = chance.choice([word for word in words if len(word) < 11])
        words.remove(word)
        before.append(word)
        words += [word + letter for letter in alphabet]
    return {word: 1 for word in words}, {word: 1 for word in before}


class Full(Case):

    def test_against_all_words(self):
        found = [0, 0]
        for alphabet, part in some_bags(1501):
            answer = self.answers(is_full, alphabet, part)
            self.assertIs(answer, meets_all(alphabet, part))
            found[answer] += 1
        self.assertGreater(min(found), 20)

    def test_all_small_bags(self):
        for clock, most, step in ((2, 2, 1), (3, 1, 1), (5, 1, 1), (7, 1, 3), (3, 2, 5)):
            for table in itertools.islice(all_tables(clock, "xy", most), 0, None, step):
                part = Bag(clock, table)
                self.assertIs(is_full("xy", part), meets_all("xy", part))

    def test_by_hand(self):
        for clock in CLOCKS:
            self.assertIs(is_full("xy", one(clock)), True)
            self.assertIs(is_full("xyz", one(clock)), True)
            self.assertIs(is_full("xy", bag(clock, x=1, y=1)), True)
            self.assertIs(is_full("xyz", bag(clock, x=1, y=1)), False)
            self.assertIs(is_full("xyz", bag(clock, x=1, y=1, z=1)), True)
            self.assertIs(is_full("xy", bag(clock, x=1, yx=1, yy=1)), True)
            self.assertIs(is_full("xy", bag(clock, x=1, y=1, one=1)), False)
            self.assertIs(is_full("xy", nothing(clock)), False)
            self.assertIs(is_full("xyz", nothing(clock)), False)
        self.assertIs(is_full("xy", bag(3, x=2, y=2, one=2)), True)
        self.assertIs(is_full("xy", bag(5, one=4)), False)
        # By the clock 2 the beginnings of a long word may come together to 3.
        self.assertIs(is_full("xy", bag(2, one=1, x=1, xx=1, xy=1)), True)
        self.assertIs(is_full("xy", bag(3, one=1, x=1, xx=1, xy=1)), False)

    def test_other_letters(self):
        for clock in CLOCKS:
            for part in (bag(clock, x=1, y=1, z=1), bag(clock, z=1), bag(clock, x=1, yx=1, yy=1, yyz=1)):
                self.assertIs(is_full("xy", part), False)
        self.assertIs(is_full("xyz", bag(2, x=1, y=1, z=1)), True)

    def test_things_of_all_kinds(self):
        for alphabet in ALPHABETS:
            self.assertEqual(self.judges_oddly(is_full, alphabet), [one(2)])

    def test_long_words(self):
        code, _ = prefix_code(chance_of(1502), "xyz", 140)
        self.assertIs(is_full("xyz", Bag(7, code)), True)
        last = max(code, key=len)
        self.assertIs(is_full("xyz", Bag(7, {**code, last: 2})), False)
        chain = {"y" * many + "x": 1 for many in range(12)}
        self.assertIs(is_full("xy", Bag(2, {**chain, "y" * 12: 1})), True)
        self.assertIs(is_full("xy", Bag(2, chain)), False)


class Beginnings(Case):

    def test_the_bag_before(self):
        chance = chance_of(1503)
        for turn in range(80):
            alphabet = ALPHABETS[turn % 2]
            part, before = full_bag(chance, CLOCKS[turn // 2 % 4], alphabet)
            self.is_bag(self.answers(beginnings, alphabet, part), part.clock, before.words)

    def test_there_is_one_exactly_if_the_bag_is_full(self):
        for alphabet, part in some_bags(1504):
            found = self.answers(beginnings, alphabet, part)
            if meets_all(alphabet, part):
                letters = Bag(part.clock, {letter: 1 for letter in alphabet})
                left = multiplied(found, less(one(part.clock), letters))
                self.assertEqual(left, less(one(part.clock), part).words)
            else:
                self.assertIsNone(found)

    def test_words_that_do_not_begin_with_one_another(self):
        chance = chance_of(1505)
        for turn in range(40):
            alphabet = ALPHABETS[turn % 2]
            clock = CLOCKS[turn % 4]
            code, before = prefix_code(chance, alphabet, chance.randint(0, 30))
            self.is_bag(beginnings(alphabet, Bag(clock, code)), clock, pairs(clock, before))

    def test_by_hand(self):
        for clock in CLOCKS:
            self.is_bag(beginnings("xy", bag(clock, x=1, yx=1, yy=1)), clock, (("y", 1), ("", 1)))
            self.is_bag(beginnings("xy", one(clock)), clock, ())
            self.is_bag(beginnings("xyz", bag(clock, x=1, y=1, z=1)), clock, (("", 1),))
            self.assertIsNone(beginnings("xy", nothing(clock)))
            self.assertIsNone(beginnings("xyz", bag(clock, x=1, y=1)))
        self.assertIsNone(beginnings("xy", bag(5, one=4)))

    def test_bags_of_any_size(self):
        letters = bag(2, x=1, y=1)
        found = beginnings("xy", power(letters, 12))
        self.assertEqual((len(found.words), size(found.words)), (2 ** 12 - 1, 11))
        self.assertIsNone(beginnings("xyz", power(letters, 12)))
        long = power(letters, 4)
        for _ in range(2):
            long = behind(long, power(bag(2, x=1), 12))
        self.assertIsNone(beginnings("xy", long))


class Unmet(Case):

    def test_against_all_words(self):
        nones = 0
        for alphabet, part in some_bags(1506, 120):
            for letters in range(5):
                wanted = [word for word in words_of(alphabet, letters) if at_beginnings(part, word) != 1]
                found = self.answers(unmet, alphabet, part, letters)
                self.assertEqual(found, min(wanted, default=None))
                nones += found is None
                if found is not None:
                    self.assertIs(type(found), str)
        self.assertGreater(nones, 60)

    def test_by_hand(self):
        code = bag(2, x=1, yx=1, yy=1)
        self.assertEqual([unmet("xy", code, letters) for letters in range(4)], ["", "y", None, None])
        self.assertEqual(unmet("xyz", code, 3), "yzx")
        self.assertEqual(unmet("xyz", code, 2), "yz")
        self.assertEqual(unmet("xy", nothing(3), 12), "x" * 12)
        self.assertEqual(unmet("xy", nothing(3), 0), "")
        self.assertIsNone(unmet("xyz", one(7), 12))
        self.assertIsNone(unmet("xyz", one(7), 0))
        self.assertEqual(unmet("xyz", bag(7, one=2), 3), "xxx")
        self.assertEqual(unmet("xy", bag(3, one=1, x=1), 2), "xx")
        self.assertEqual(unmet("xy", bag(3, one=1, y=1), 2), "yx")
        # What is longer than the words has no part in it.
        self.assertIsNone(unmet("xy", bag(3, x=1, y=1, xx=1), 1))
        self.assertEqual(unmet("xy", bag(3, x=1, y=1, xx=1), 2), "xx")

    def test_12_letters(self):
        chain = Bag(5, {**{"y" * many + "x": 1 for many in range(12)}, "y" * 12: 2})
        self.assertEqual([unmet("xy", chain, letters) for letters in (11, 12)], ["y" * 11, "y" * 12])
        self.assertIsNone(unmet("xy", Bag(5, {**dict(chain.words), "y" * 12: 1}), 12))
        self.assertEqual(unmet("xyz", chain, 12), "y" * 12)
        code, _ = prefix_code(chance_of(1507), "xyz", 140)
        self.assertIsNone(unmet("xyz", Bag(7, code), 12))
        last = max(code)
        del code[last]
        self.assertEqual(unmet("xyz", Bag(7, code), 12), last.ljust(12, "x"))

    def test_longer_bags(self):
        letters = bag(3, x=1, y=1)
        self.assertEqual(unmet("xy", behind(power(letters, 12), letters), 12), "x" * 12)
        self.assertEqual(unmet("xy", times(power(letters, 12), 2), 12), "x" * 12)
        self.assertIsNone(unmet("xy", power(letters, 12), 12))


class Refusing(Case):

    def calls(self):
        return (lambda alphabet, part: is_full(alphabet, part), beginnings,
                lambda alphabet, part: unmet(alphabet, part, 3))

    def test_no_alphabet(self):
        for call in self.calls():
            for part in (one(2), nothing(3), bag(5, z=1)):
                self.refuses_all_but(lambda thing: type(thing) is str and thing in ALPHABETS, NoAlphabet,
                                     lambda thing: call(thing, part if thing != "xy" or part.clock < 5 else one(2)))
                for wrong in ("x", "yx", "xz", "yz", "zyx", "xyzx", "", "XY", " xy", "xy ", ["x", "y"], ("x", "y"),
                              {"x": 1, "y": 1}, b"xy", True, None, deep(list)):
                    self.refuses(NoAlphabet, call, wrong, part)
        for wrong in ("yx", None, deep(dict)):
            for thing in odd_things():
                self.refuses(NoAlphabet, is_full, wrong, thing)
            self.refuses(NoAlphabet, unmet, wrong, bag(2, z=1), -1)

    def test_no_letters(self):
        for clock in CLOCKS:
            for part in (bag(clock, z=1), bag(clock, x=1, y=1, z=1), bag(clock, xxyzx=1, one=1)):
                self.refuses(NoLetters, beginnings, "xy", part)
                for letters in (0, 12, 13, -1, True, None, "1"):
                    self.refuses(NoLetters, unmet, "xy", part, letters)

    def test_no_number(self):
        for part in (one(2), nothing(3), bag(5, x=1, y=1)):
            self.refuses_all_but(lambda thing: is_integer(thing) and 0 <= thing <= 12, NoNumber,
                                 lambda thing: unmet("xyz", part, thing))


if __name__ == "__main__":
    unittest.main()
