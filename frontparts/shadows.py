"""Shadows: with each letter read as a number of times one and the same letter, a table becomes a polynomial.

The shadow of a front part divides that of the bag. The search for front parts, where many numbers
are free in it, follows the divisors of the bag's shadow instead of all numbers.
"""

from frontparts.divisors import divisors, monic, trimmed
from frontparts.kinds import LETTERS


class Shadow:
    """One reading of the letters, by which neither a bag nor the longest words of its front are 0.

    Both are told by their levels, the longest words first; the front by its first level alone.
    """

    def __init__(self, levels, front, point, clock):
        self.clock = clock
        self.powers = [powers_of(number, len(levels), clock) for number in point]
        self.known = {}
        shadow = trimmed([self.of(level) for level in levels[::-1]], clock)
        for divisor in divisors(monic(shadow, clock), clock):
            if len(divisor) == size_of(front) + 1:
                told = divisor[::-1]
                for many in range(1, len(told) + 1):
                    self.known[tuple(told[:many])] = True

    def of(self, level):
        """The number that the words of a level table give together."""
        return value_of(counts_of(level), self.powers) % self.clock

    def begins(self, told):
        """Whether the shadow of a front may begin so, told from its first level on, the first one being 1."""
        return told in self.known


def size_of(level):
    """The number of letters of the words of a level table."""
    return max([len(word) for word in level])


def powers_of(number, many, clock):
    """The powers of a number, from the one at 0 on."""
    found = [1]
    while len(found) < many:
        found.append(found[-1] * number % clock)
    return found


def shadow_of(levels, front, clock):
    """A shadow for fronts of a bag that begin with a level, or None if no reading makes one."""
    counted = [counts_of(level) for level in levels]
    counted_front = counts_of(front)
    powers = [powers_of(number, len(levels), clock) for number in range(clock)]
    points = [(a, b, c) for a in range(clock) for b in range(clock) for c in range(clock)]
    for point in points:
        read = [powers[number] for number in point]
        if value_of(counted_front, read) % clock and any([value_of(counts, read) % clock for counts in counted]):
            return Shadow(levels, front, point, clock)
    return None


def counts_of(level):
    """The numbers of all words together that have so many of each letter."""
    found = {}
    for word, number in level.items():
        counts = tuple([word.count(letter) for letter in LETTERS])
        found[counts] = found.get(counts, 0) + number
    return found


def value_of(counted, powers):
    """What counted words give if the letters are read as the numbers of which these are the powers."""
    return sum([number * powers[0][i] * powers[1][j] * powers[2][k] for (i, j, k), number in counted.items()])
