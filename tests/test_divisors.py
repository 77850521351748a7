"""Divisors of polynomials in one letter, which the search for front parts follows."""

import itertools
import unittest

from frontparts.divisors import divisors
from tests.tools import CLOCKS, chance_of, plus, product


def table_of(poly):
    return {"x" * place: number for place, number in enumerate(poly) if number}


def divides(clock, one, other):
    """Whether a polynomial, told with the last number 1, divides another one."""
    left = table_of(other)
    while len(max(left, default="", key=len)) >= len(one) - 1 and left:
        word = max(left, key=len)
        turn = {word[len(one) - 1:]: -left[word]}
        left = plus(clock, left, product(clock, table_of(one), turn))
    return not left


class Divisors(unittest.TestCase):

    def check(self, clock, poly):
        wanted = []
        for many in range(len(poly)):
            for numbers in itertools.product(range(clock), repeat=many):
                if divides(clock, [*numbers, 1], poly):
                    wanted.append([*numbers, 1])
        self.assertEqual(sorted(divisors(poly, clock)), sorted(wanted), (clock, poly))

    def test_against_a_search_through_all_candidates(self):
        for clock, most in ((2, 5), (3, 3), (5, 2), (7, 2)):
            for many in range(most + 1):
                for numbers in itertools.product(range(clock), repeat=many):
                    self.check(clock, [*numbers, 1])

    def test_longer_ones_and_powers(self):
        chance = chance_of(35)
        for clock, most in ((2, 9), (3, 6), (5, 4)):
            for _ in range(15):
                self.check(clock, [chance.randrange(clock) for _ in range(most)] + [chance.randint(1, clock - 1)])
        self.check(2, [0] * 8 + [1])
        self.check(2, [1, 0, 0, 0, 1, 0, 0, 0, 1])
        self.check(3, [2, 0, 0, 0, 0, 0, 1])

    def test_many_divisors(self):
        for clock in CLOCKS:
            whole = [clock - 1] + [0] * (clock - 2) + [1] if clock > 2 else [1, 1]
            self.assertEqual(len(divisors(whole, clock)), 2 ** (clock - 1))
            self.assertEqual(len(divisors([0] * 12 + [1], clock)), 13)


if __name__ == "__main__":
    unittest.main()
