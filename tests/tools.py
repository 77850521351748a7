"""What the tests reckon by themselves, without the arithmetic of the package, and the things they hand in."""

import itertools
import random
import unittest

from frontparts import errors
from frontparts.bags import Bag, behind
from frontparts.errors import IsNothing, TooLong

CLOCKS = (2, 3, 5, 7)
LETTERS = "xyz"


def bag(clock, **words):
    """A bag told by its words; the empty word is told as `one`."""
    return Bag(clock, {"" if word == "one" else word: number for word, number in words.items()})


def nothing(clock):
    return Bag(clock, {})


def one(clock):
    return Bag(clock, {"": 1})


def rank(word):
    return (-len(word), word)


def pairs(clock, table):
    """What the attribute words of a bag must be, for a table of any numbers."""
    left = {word: number % clock for word, number in table.items() if number % clock}
    return tuple((word, left[word]) for word in sorted(left, key=rank))


def plus(clock, *tables):
    found = {}
    for table in tables:
        for word, number in dict(table).items():
            found[word] = (found.get(word, 0) + number) % clock
    return dict(pairs(clock, found))


def times(clock, table, number):
    return dict(pairs(clock, {word: amount * number for word, amount in dict(table).items()}))


def product(clock, *tables):
    """The product of tables, or of the words of bags."""
    found = {"": 1}
    for table in tables:
        longer = {}
        for front, number in found.items():
            for back, amount in dict(table).items():
                longer[front + back] = longer.get(front + back, 0) + number * amount
        found = dict(pairs(clock, longer))
    return found


def multiplied(*bags):
    """The words of the product of bags."""
    return pairs(bags[0].clock, product(bags[0].clock, *[part.words for part in bags]))


def summed(row, others):
    """The words of the sum of a row with bags behind its bags."""
    clock = row[0].clock
    products = [product(clock, front.words, back.words) for front, back in zip(row, others)]
    return pairs(clock, plus(clock, *products))


def is_plain(table):
    words = sorted(dict(table), key=rank)
    return bool(words) and dict(table)[words[0]] == 1


def size(words):
    """The length of a bag, told by its words."""
    return max([len(word) for word, _ in words], default=-1)


def ascending(bags):
    keys = [(size(part.words), part.words) for part in bags]
    return all(low < high for low, high in zip(keys, keys[1:]))


def words_up_to(letters, most):
    return ["".join(word) for many in range(most + 1) for word in itertools.product(letters, repeat=many)]


def all_tables(clock, letters, most):
    """All tables with these letters and no longer words."""
    words = words_up_to(letters, most)
    for numbers in itertools.product(range(clock), repeat=len(words)):
        yield {word: number for word, number in zip(words, numbers) if number}


def all_products(clock, letters, most):
    """For the words of each plain bag of this length, the pairs of words of all A, plain, and B with the bag A B.

    Neither A nor B is a number alone.
    """
    tables = [table for table in all_tables(clock, letters, most - 1) if any(table)]
    found = {}
    for front in tables:
        if is_plain(front):
            for back in tables:
                if is_plain(back) and size(front.items()) + size(back.items()) == most:
                    key = pairs(clock, product(clock, front, back))
                    found.setdefault(key, []).append((pairs(clock, front), pairs(clock, back)))
    return found


def random_table(chance, clock, letters, most, many, least=0):
    table = {}
    for _ in range(many):
        word = "".join(chance.choice(letters) for _ in range(chance.randint(least, most)))
        table[word] = chance.randint(1, clock - 1)
    return table


def random_bag(chance, clock, letters=LETTERS, most=3, many=4, least=0):
    return Bag(clock, random_table(chance, clock, letters, most, many, least))


def chance_of(seed):
    return random.Random(seed)


def deep(kind, depth=40):
    """An object nested as deep as point 0.3 allows."""
    found = "x"
    for _ in range(depth):
        if kind is dict:
            found = {"x": found}
        else:
            found = kind([found])
    return found


def lead_of(parts):
    """The least place at which a tuple of words is not nothing, and the first word there; None for nothing."""
    for place, words in enumerate(parts):
        if dict(words):
            return place, min(dict(words), key=rank)
    return None


def left_over(clock, leaders, parts):
    """A tuple of words less sums of such tuples, until no word begins with one by which one of them leads."""
    left = [dict(words) for words in parts]
    leads = [(*lead_of(leader), leader) for leader in leaders]
    while True:
        hits = [(place, rank(word), word, head, leader) for place, head, leader in leads
                for word in left[place] if word.startswith(head)]
        if not hits:
            return tuple(pairs(clock, table) for table in left)
        place, _, word, head, leader = min(hits, key=lambda hit: hit[:2])
        turn = {word[len(head):]: -left[place][word] * pow(dict(leader[place])[head], -1, clock)}
        for at, words in enumerate(leader):
            left[at] = plus(clock, left[at], product(clock, words, turn))


def divides(front, part):
    """Whether a bag is the front with something behind it."""
    return left_over(front.clock, [(front.words,)], (part.words,)) == ((),)


def odd_things():
    """Objects of every kind that point 0.3 allows, right ones and wrong ones."""
    return [
        True, False, None, 0, 1, -1, 2, 3, 4, 5, 7, 8, 12, 13, 10 ** 40 - 1, 1 - 10 ** 40,
        "", "x", "xy", "z" * 12, "y" * 13, "X", "x ", "a", "2", "xya", b"", b"x", bytearray(b"x"),
        [], (), {}, [0], (0,), (1, 2), [1, 2], ["x"], ("x",), ("x", "y", "x", "y"), {"x": 1}, {"": 0}, {1: 2},
        {"x": True}, {"x": "1"}, {("x", 1): 1}, {"x": nothing(2), "y": one(2)}, {None: one(2)},
        deep(list), deep(tuple), deep(dict), [deep(tuple, 39)], (deep(dict, 39),), {"x": deep(list, 39)},
        nothing(2), one(2), bag(2, x=1), nothing(3), bag(3, x=2), bag(5, xy=1, one=3), bag(7, xx=1, y=6),
        [nothing(2)], (one(2),), [bag(2, x=1), bag(3, x=1)], [[bag(2, x=1)]], ((bag(2, x=1),),),
        [bag(2, x=1), "x"], (bag(2, x=1), None), [bag(2, x=1), [bag(2, x=1)]], {0: bag(2, x=1)},
        list(range(19999)), tuple(["x"] * 19999), range(3), slice(1), object(), len, int, Bag, Ellipsis,
        NotImplemented, iter([]), lambda: 0, errors.UnlikeClocks(), errors.BadBag("clock"), memoryview(b"x"),
    ]


def is_integer(thing):
    return type(thing) is int


def is_word(thing):
    return type(thing) is str and all(letter in "xyz" for letter in thing)


def is_row(thing, most):
    """Whether a thing is a list or tuple of 1 to so many bags of one clock."""
    return (type(thing) in (list, tuple) and 1 <= len(thing) <= most
            and all(type(part) is Bag for part in thing) and len({part.clock for part in thing}) == 1)


def told(thing):
    """A picture of an object that shows each change of it, inside too."""
    if type(thing) is Bag:
        return ("bag", thing.clock, told(thing.words), id(thing))
    if type(thing) in (list, tuple):
        return (type(thing), [told(part) for part in thing])
    if type(thing) is dict:
        return (dict, [(told(key), told(value)) for key, value in thing.items()])
    return (type(thing), repr(thing) if type(thing) in (int, bool, str) else id(thing))


class Case(unittest.TestCase):
    """A test case that knows what all calls of the package have in common."""

    def refuses(self, error, function, *arguments):
        """The error that a call raises: of just this class, and with nothing changed."""
        before = told(list(arguments))
        with self.assertRaises(error) as caught:
            function(*arguments)
        self.assertIs(type(caught.exception), error, (function, arguments))
        self.assertEqual(told(list(arguments)), before)
        return caught.exception

    def splits_first(self, function, *others):
        """A function of a bag raises the errors of point 3.2 before those of its other arguments."""
        edge = Bag(2, {"x" * 11 + "y": 1, "y": 1})
        for clock in CLOCKS:
            self.refuses(IsNothing, function, nothing(clock), *others)
        for long in (behind(edge, bag(2, x=1)), behind(bag(2, y=1), edge), behind(edge, edge)):
            self.assertEqual(self.refuses(TooLong, function, long, *others).most, 12)

    def refuses_all_but(self, fits, error, call):
        """A call of one argument raises the error for each odd thing that does not fit, and for no other one."""
        for thing in odd_things():
            with self.subTest(thing=repr(thing)[:80]):
                if fits(thing):
                    call(thing)
                else:
                    self.refuses(error, call, thing)

    def answers(self, function, *arguments):
        """What a call returns; a second one returns the like, new where it is a list, and changes nothing."""
        before = told(list(arguments))
        found = function(*arguments)
        again = function(*arguments)
        self.assertEqual(told(list(arguments)), before)
        self.assertEqual(found, again)
        self.assertIs(type(found), type(again))
        if type(found) in (list, dict):
            self.assertIsNot(found, again)
            if type(found) is list:
                again.append("changed")
            again.clear()
            self.assertEqual(function(*arguments), found)
        return found

    def is_bag(self, thing, clock, words):
        """Checks that a thing is the bag of just these words, in order."""
        self.assertIs(type(thing), Bag)
        self.assertEqual((thing.clock, thing.words), (clock, tuple(words)))
        self.assertIs(type(thing.words), tuple)
        for word, number in thing.words:
            self.assertIs(type(word), str)
            self.assertIs(type(number), int)

    def leads_apart(self, found):
        """Checks the leading words of a list of idle tuples, as point 2.3 tells of them. The tuples of their words."""
        leads = []
        for told in found:
            place, word = lead_of([part.words for part in told])
            self.assertEqual(dict(told[place].words)[word], 1)
            leads.append((place, word))
        self.assertEqual(leads, sorted(set(leads), key=lambda lead: (lead[0], rank(lead[1]))))
        for told, own in zip(found, leads):
            for place, head in leads:
                if (place, head) != own:
                    self.assertFalse(any(word.startswith(head) for word, _ in told[place].words))
        return [tuple(part.words for part in told) for told in found]

    def judges_oddly(self, function, *arguments):
        """Calls a judging function with all odd things: each answer is a flag. The list of the things it takes."""
        taken = []
        for thing in odd_things():
            answer = function(*arguments, thing)
            self.assertIn(answer, (True, False))
            self.assertIs(type(answer), bool)
            if answer:
                taken.append(thing)
        return taken
