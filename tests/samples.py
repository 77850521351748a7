"""Bags with webs of many kinds, and what points 4 and 5 say of these, reckoned in another way than the package does.

A Plan knows of its bag the front parts alone, and compares them by the arithmetic of tests.tools.
"""

import itertools

from frontparts.bags import Bag, all_behind, length, times
from frontparts.fronts import front_parts
from tests.tools import CLOCKS, bag, chance_of, divides, one, random_bag, size

# Its knots are y, y x and y x + 1, the first one before the second one.
F = Bag(2, {"yxyx": 1, "yx": 1})
# Three knots, none of them before another one.
FLAT = all_behind([Bag(3, {"x": 1}), Bag(3, {"x": 1, "": 1}), Bag(3, {"x": 1, "": 2})])
# Four knots, each before the next one.
CHAIN = Bag(5, {"xxxx": 1})


def line(clock, number, word="x"):
    """A word, with a number put to it."""
    return Bag(clock, {word: 1, "": number} if number % clock else {word: 1})


def lines(clock, numbers, word="x"):
    """The product of lines."""
    return all_behind([line(clock, number, word) for number in numbers])


# The bag of one letter with the most front parts, 972, that 12 letters have; and one with 432.
MOST = lines(7, (0, 0, 1, 1, 2, 2, 3, 3, 4, 4, 5, 6))
MANY = lines(5, (0, 0, 0, 1, 1, 1, 2, 2, 3, 3, 4, 4))
# 30 ways, then z, then 10 ways.
WAYS_300 = all_behind([lines(3, (0, 0, 1, 1, 2)), bag(3, z=1), lines(3, (0, 0, 0, 1, 1))])
# 11 letters, of which 4 are chosen.
WAYS_330 = lines(2, (0,) * 7 + (1,) * 4)


def random_lines(chance, clock, many):
    """A product of lines of x, y, xy and yx: such bags have webs of all kinds."""
    words = [chance.choice(("x", "x", "y", "y", "xy", "yx")) for _ in range(many)]
    row = [line(clock, chance.randint(0 if len(word) == 1 else 1, clock - 1), word) for word in words]
    return times(all_behind(row), chance.randint(1, clock - 1))


def bags_for_texts(seed, many, most):
    """Nothing, numbers alone, single words, and bags by chance, with all numbers of all clocks."""
    chance = chance_of(seed)
    for clock in CLOCKS:
        yield Bag(clock, {})
        for number in range(1, clock):
            yield bag(clock, one=number)
            yield bag(clock, xyz=number)
            yield bag(clock, z=number, one=clock - number)
        for _ in range(many):
            yield random_bag(chance, clock, most=most, many=6)


def plain_examples():
    """Bags told by hand, of all clocks: numbers alone, chains, flat webs, ways by which letters stand together."""
    for clock in CLOCKS:
        yield one(clock)
        yield bag(clock, one=clock - 1)
        yield bag(clock, z=clock - 1, one=1)
        yield lines(clock, (1, 1, 1))
        yield lines(clock, range(min(clock, 4)))
        yield lines(clock, (0, 1, 1, 0))
        yield times(bag(clock, xyx=1, x=clock - 1), clock - 1)
        yield all_behind([line(clock, 1, "xy"), line(clock, 0), line(clock, 1, "yx"), line(clock, 1)])
        yield all_behind([bag(clock, x=1, y=1, z=clock - 1, one=number) for number in (1, clock - 1, 1)])
    yield F


def many_webs(seed, many=24, knots=6, most=9, least=0):
    """Bags with unlike webs of at most so many knots, by chance, all clocks among them."""
    chance = chance_of(seed)
    found = {}
    while len(found) < many:
        clock = CLOCKS[len(found) % 4]
        part = random_lines(chance, clock, chance.randint(2, knots))
        if length(part) <= most:
            told = Plan(part)
            if len(told.orders()) >= least:
                found.setdefault((clock, len(told.knots), tuple(told.befores)), part)
    return list(found.values())


class Plan:
    """The web of a bag by the words of the document, told by its front parts."""

    def __init__(self, part):
        self.parts = front_parts(part)
        places = range(len(self.parts))
        fits = {(i, j) for j in places for i in range(j + 1)
                if i in (0, j) or divides(self.parts[i], self.parts[j])}
        knots = []
        for j in places:
            within = [i for i in range(j) if (i, j) in fits]
            if any(all((i, top) in fits for i in within) for top in within):
                knots.append(j)
        self.knots = [self.parts[j] for j in knots]
        self.befores = [(a, b) for a, i in enumerate(knots) for b, j in enumerate(knots) if i < j and (i, j) in fits]
        self.lots = [tuple(a for a, i in enumerate(knots) if (i, j) in fits) for j in places]

    def orders(self):
        """The ascending list of all orders."""
        found = [()]
        for _ in self.knots:
            found = [order + (knot,) for order in found for knot in range(len(self.knots))
                     if knot not in order and all(i in order for i, j in self.befores if j == knot)]
        return found

    def is_before(self, knot, other):
        return (knot, other) in self.befores

    def part(self, knots):
        """The front part that has just these knots."""
        return self.parts[self.lots.index(tuple(sorted(knots)))]


def ways_of_products(products, words):
    """The set of all ways, told by words, of a plain bag of some length, by a dict of all products for each length."""
    if size(words) == 0:
        return {()}
    splits = products[size(words)].get(words, [])
    found = set() if splits else {(words,)}
    for front, back in splits:
        if front not in products[size(front)]:
            found |= {(front, *way) for way in ways_of_products(products, back)}
    return found


def apart(one_order, other):
    """The number of the pairs that stand the other way about."""
    return sum(other.index(a) > other.index(b) for a, b in itertools.combinations(one_order, 2))


def told(bags):
    """The words of bags."""
    return [part.words for part in bags]


def ascending_words(bags):
    """The words of bags, each once, ascending."""
    return sorted({part.words for part in bags}, key=lambda words: (size(words), words))
