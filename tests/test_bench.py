"""The bench: point 11.1."""

import unittest

from frontparts.bags import Bag, all_behind, behind, power, together
from frontparts.bench import Bench
from frontparts.errors import BagError, Full, IsNothing, NoBag, NoClock, NoNumber, NoPlace, NothingDone, NoWord, TooLong
from frontparts.fronts import front_parts
from tests.samples import F, line, lines
from tests.tools import CLOCKS, Case, bag, chance_of, is_integer, is_word, multiplied, nothing, odd_things, one, pairs
from tests.tools import plus, random_bag, told

METHODS = ("lay", "take", "put", "fuse", "cleave", "back")


def state(bench):
    """All that can be asked of a bench, with all that it can go back to."""
    other = bench.copy()
    rows = [[part.words for part in other.bags()]]
    while other.depth():
        other.back()
        rows.append([part.words for part in other.bags()])
    return (bench.depth(), [part.words for part in bench.bags()], bench.whole().words, rows)


def row_of(clock, many):
    """A row of bags, by greater clocks all unlike."""
    return [line(clock, number % 4 % clock, "xyz"[number // 4]) for number in range(many)]


def full_bench(clock, many=12):
    bench = Bench(clock)
    for part in row_of(clock, many):
        bench.lay(part)
    return bench


class Model:
    """A bench by the words of the document: a list of words of bags, and the lists before."""

    def __init__(self, clock):
        self.clock = clock
        self.rows = [[]]

    def row(self):
        return list(self.rows[-1])

    def lay(self, part):
        self.rows.append([*self.row(), part.words])

    def take(self, place):
        self.rows.append(self.row()[:place] + self.row()[place + 1:])

    def put(self, place, word, number):
        words = pairs(self.clock, plus(self.clock, self.row()[place], {word: number}))
        self.rows.append([*self.row()[:place], words, *self.row()[place + 1:]])

    def fuse(self, place):
        words = multiplied(*[Bag(self.clock, dict(words)) for words in self.row()[place:place + 2]])
        self.rows.append([*self.row()[:place], words, *self.row()[place + 2:]])

    def back(self):
        self.rows.pop()

    def state(self):
        rows = self.rows[::-1]
        whole = multiplied(one(self.clock), *[Bag(self.clock, dict(words)) for words in self.row()])
        return (len(self.rows) - 1, self.row(), whole, rows)


class Working(Case):

    def test_many_steps(self):
        chance = chance_of(1801)
        for turn in range(24):
            clock = CLOCKS[turn % 4]
            bench, model = Bench(clock), Model(clock)
            for _ in range(30):
                many = len(model.row())
                name = chance.choice(METHODS[:4] + ("lay", "back", "lay"))
                if name == "lay" and many < 12:
                    arguments = (random_bag(chance, clock, "xy", 1, 2),)
                elif name == "take" and many:
                    arguments = (chance.randrange(many),)
                elif name == "put" and many:
                    arguments = (chance.randrange(many), chance.choice(("", "x", "yx")), chance.randrange(clock))
                elif name == "fuse" and 1 < many < 6:
                    arguments = (chance.randrange(many - 1),)
                elif name == "back" and bench.depth():
                    arguments = ()
                else:
                    continue
                self.assertIsNone(getattr(bench, name)(*arguments))
                getattr(model, name)(*arguments)
                self.assertEqual(state(bench), model.state())

    def test_an_empty_bench(self):
        for clock in CLOCKS:
            bench = Bench(clock)
            self.assertEqual((bench.bags(), bench.depth()), ([], 0))
            self.is_bag(bench.whole(), clock, (("", 1),))
            self.refuses(NothingDone, bench.back)
            for name, arguments in (("take", (0,)), ("put", (0, "", 0)), ("fuse", (0,)), ("cleave", (0, 0))):
                self.refuses(NoPlace, getattr(bench, name), *arguments)
            self.assertEqual(bench.depth(), 0)

    def test_lay_and_take(self):
        bench = Bench(5)
        bags = row_of(5, 12)
        for many, part in enumerate(bags):
            self.assertIsNone(bench.lay(part))
            self.assertEqual((bench.bags(), bench.depth()), (bags[:many + 1], many + 1))
        self.assertIsNone(bench.take(3))
        self.assertEqual(bench.bags(), bags[:3] + bags[4:])
        self.assertIsNone(bench.take(0))
        self.assertIsNone(bench.take(9))
        self.assertEqual(bench.bags(), bags[1:3] + bags[4:11])
        self.is_bag(bench.whole(), 5, multiplied(*(bags[1:3] + bags[4:11])))

    def test_nothing_and_numbers_can_be_laid(self):
        bench = Bench(3)
        for part in (nothing(3), bag(3, one=2), power(bag(3, xyz=1), 12)):
            bench.lay(part)
        self.assertEqual(bench.bags(), [nothing(3), bag(3, one=2), power(bag(3, xyz=1), 12)])
        self.assertEqual(bench.whole(), nothing(3))
        bench.take(0)
        self.is_bag(bench.whole(), 3, (("xyz" * 12, 2),))

    def test_put(self):
        bench = Bench(3)
        bench.lay(bag(3, x=1))
        for word, number, words in (("x", 1, (("x", 2),)), ("x", 1, ()), ("y" * 12, 2, (("y" * 12, 2),)), ("", 0, (("y" * 12, 2),)),
                                    ("", 1, (("y" * 12, 2), ("", 1))), ("y" * 12, 1, (("", 1),))):
            self.assertIsNone(bench.put(0, word, number))
            self.is_bag(bench.bags()[0], 3, words)
        # What changes nothing was done, too.
        self.assertEqual(bench.depth(), 7)
        bench.back()
        bench.back()
        bench.back()
        self.is_bag(bench.bags()[0], 3, (("y" * 12, 2),))

    def test_put_into_bags_of_any_size(self):
        long = power(bag(2, x=1, y=1), 9)
        bench = Bench(2)
        bench.lay(long)
        bench.put(0, "", 1)
        self.assertEqual(bench.bags(), [together(long, one(2))])

    def test_fuse(self):
        bench = Bench(2)
        x, y = bag(2, x=1), bag(2, y=1, one=1)
        for part in (x, y, x):
            bench.lay(part)
        self.assertIsNone(bench.fuse(1))
        self.assertEqual(bench.bags(), [x, behind(y, x)])
        self.assertIsNone(bench.fuse(0))
        self.assertEqual(bench.bags(), [all_behind([x, y, x])])
        self.assertEqual(bench.whole(), all_behind([x, y, x]))
        self.assertEqual(bench.depth(), 5)

    def test_cleave(self):
        for part in (F, lines(3, (0, 1, 2)), Bag(5, {"xyx": 3, "x": 1}), bag(7, one=5), Bag(7, {"x" * 12: 6})):
            clock = part.clock
            for number, front in enumerate(front_parts(part)):
                bench = full_bench(clock, 2)
                bench.lay(part)
                bench.lay(bag(clock, z=1))
                self.assertIsNone(bench.cleave(2, number))
                found = bench.bags()
                self.assertEqual((len(found), found[:2], found[4]), (5, full_bench(clock, 2).bags(), bag(clock, z=1)))
                self.assertEqual(found[2], front)
                self.assertEqual(multiplied(found[2], found[3]), part.words)
                bench.back()
                self.assertEqual((bench.bags()[2], bench.depth()), (part, 4))

    def test_cleave_by_hand(self):
        bench = Bench(3)
        bench.lay(bag(3, xy=2))
        bench.cleave(0, 1)
        self.assertEqual(bench.bags(), [bag(3, x=1), bag(3, y=2)])
        bench.cleave(1, 1)
        self.assertEqual(bench.bags(), [bag(3, x=1), bag(3, y=1), bag(3, one=2)])
        bench.cleave(0, 0)
        self.assertEqual(bench.bags(), [one(3), bag(3, x=1), bag(3, y=1), bag(3, one=2)])
        bench.cleave(3, 0)
        self.assertEqual(bench.bags()[3:], [one(3), bag(3, one=2)])

    def test_back_and_depth(self):
        bench = Bench(2)
        steps = [("lay", (F,)), ("cleave", (0, 3)), ("put", (0, "xx", 1)), ("fuse", (0,)), ("lay", (one(2),)), ("take", (0,))]
        states = [state(bench)]
        for number, (name, arguments) in enumerate(steps):
            getattr(bench, name)(*arguments)
            self.assertEqual(bench.depth(), number + 1)
            states.append(state(bench))
        for wanted in states[-2::-1]:
            self.assertIsNone(bench.back())
            self.assertEqual(state(bench), wanted)
        self.refuses(NothingDone, bench.back)
        # What was taken back is not there any more, and a new step counts.
        bench.lay(one(2))
        bench.back()
        bench.lay(F)
        self.assertEqual((bench.depth(), bench.bags()), (1, [F]))

    def test_many_steps_can_be_taken_back(self):
        bench = Bench(7)
        bench.lay(one(7))
        for _ in range(3000):
            bench.put(0, "x", 1)
        self.assertEqual((bench.depth(), bench.bags()), (3001, [bag(7, one=1, x=3000 % 7)]))
        for _ in range(3001):
            bench.back()
        self.assertEqual((bench.depth(), bench.bags()), (0, []))

    def test_the_list_can_be_changed(self):
        bench = full_bench(2, 3)
        found = bench.bags()
        found.append(one(2))
        found[0] = nothing(2)
        self.assertEqual(bench.bags(), full_bench(2, 3).bags())
        self.assertIsNot(bench.bags(), bench.bags())
        bench.bags().clear()
        self.assertEqual(len(bench.bags()), 3)

    def test_benches_are_not_equal_to_anything_else(self):
        for other in (Bench(2), None, [], 0, one(2), ()):
            self.assertNotEqual(Bench(2), other)


class Copies(Case):

    def test_a_copy_goes_on_apart(self):
        bench = full_bench(3, 4)
        bench.take(1)
        before = state(bench)
        other = bench.copy()
        self.assertIs(type(other), Bench)
        self.assertEqual(state(other), before)
        other.lay(one(3))
        other.fuse(0)
        self.assertEqual(state(bench), before)
        bench.back()
        bench.back()
        self.assertEqual((other.depth(), bench.depth()), (7, 3))
        for _ in range(7):
            other.back()
        self.assertEqual(state(other), state(Bench(3)))
        self.refuses(NothingDone, other.back)
        self.assertEqual(bench.bags(), full_bench(3, 3).bags())

    def test_a_copy_has_the_clock(self):
        for clock in CLOCKS:
            other = Bench(clock).copy()
            self.is_bag(other.whole(), clock, (("", 1),))
            self.refuses(NoBag, other.lay, one(3 if clock == 2 else 2))


class Trying(Case):

    def test_everything_is_put_back(self):
        bench = full_bench(5, 5)
        bench.take(2)
        before = state(bench)

        def action(thing):
            self.assertIs(thing, bench)
            self.assertEqual(state(thing), before)
            thing.fuse(0)
            thing.lay(one(5))
            thing.put(0, "z", 4)
            self.assertEqual(thing.depth(), before[0] + 3)
            return thing.whole()
        found = bench.trying(action)
        self.assertEqual(state(bench), before)
        row = full_bench(5, 5).bags()
        first = together(behind(row[0], row[1]), bag(5, z=4))
        self.assertEqual(found, all_behind([first, row[3], row[4]]))

    def test_what_is_returned(self):
        bench = full_bench(2, 1)
        for thing in odd_things():
            self.assertIs(bench.trying(lambda _: thing), thing)
        self.assertIs(bench.trying(lambda thing: thing), bench)
        self.assertIsNone(bench.trying(lambda thing: thing.take(0)))
        self.assertEqual(bench.bags(), full_bench(2, 1).bags())

    def test_what_was_taken_back_is_there_again(self):
        bench = full_bench(3, 4)
        before = state(bench)

        def action(thing):
            while thing.depth():
                thing.back()
            thing.lay(one(3))
            return thing.bags()
        self.assertEqual(bench.trying(action), [one(3)])
        self.assertEqual(state(bench), before)
        bench.back()
        self.assertEqual(bench.bags(), full_bench(3, 3).bags())

    def test_an_error_goes_on(self):
        bench = full_bench(3, 4)
        before = state(bench)
        for error in (KeyError, ValueError, RuntimeError, KeyboardInterrupt, Full, BagError):
            def action(thing):
                thing.take(0)
                thing.back()
                thing.back()
                thing.lay(one(3))
                raise error()
            with self.assertRaises(error) as caught:
                bench.trying(action)
            self.assertIs(type(caught.exception), error)
            self.assertEqual(state(bench), before)
        self.refuses(NoPlace, bench.trying, lambda thing: thing.take(0) or thing.take(9))
        self.assertEqual(state(bench), before)

    def test_trying_within_trying(self):
        bench = full_bench(3, 4)
        before = state(bench)

        def inner(thing):
            thing.take(0)
            return len(thing.bags())

        def outer(thing):
            thing.take(0)
            kept = state(thing)
            found = (thing.trying(inner), len(thing.bags()))
            self.assertEqual(state(thing), kept)
            thing.back()
            return found
        self.assertEqual(bench.trying(outer), (2, 3))
        self.assertEqual(state(bench), before)

    def test_a_copy_that_was_made_there_stays(self):
        bench = full_bench(3, 2)
        copies = []

        def action(thing):
            thing.take(0)
            copies.append(thing.copy())
        bench.trying(action)
        self.assertEqual((copies[0].depth(), len(copies[0].bags())), (3, 1))
        bench.lay(one(3))
        copies[0].back()
        self.assertEqual(state(copies[0]), state(full_bench(3, 2)))


class Refusing(Case):

    def refused(self, error, bench, name, *arguments):
        """A call is refused, and the bench is as it was."""
        before = state(bench)
        kept = told(bench.bags())
        found = self.refuses(error, getattr(bench, name), *arguments)
        self.assertEqual((state(bench), told(bench.bags())), (before, kept))
        return found

    def test_no_clock(self):
        self.refuses_all_but(lambda thing: is_integer(thing) and thing in CLOCKS, NoClock, Bench)
        for wrong in (0, 1, 4, 6, 8, 11, -2, True, "2", None, one(2), [2]):
            self.refuses(NoClock, Bench, wrong)

    def test_lay(self):
        for clock in CLOCKS:
            empty, full = Bench(clock), full_bench(clock)
            for thing in odd_things():
                if type(thing) is Bag and thing.clock == clock:
                    empty.copy().lay(thing)
                    self.refused(Full, full, "lay", thing)
                else:
                    self.refused(NoBag, empty, "lay", thing)
                    self.refused(NoBag, full, "lay", thing)

    def test_places(self):
        bench = full_bench(3, 3)
        for thing in odd_things():
            if not (is_integer(thing) and 0 <= thing < 3):
                self.refused(NoPlace, bench, "take", thing)
                for word, number in (("x", 1), (None, 1), ("x", -1)):
                    self.refused(NoPlace, bench, "put", thing, word, number)
                for number in (0, -1, None):
                    self.refused(NoPlace, bench, "cleave", thing, number)
            if not (is_integer(thing) and 0 <= thing < 2):
                self.refused(NoPlace, bench, "fuse", thing)
        self.refused(NoPlace, full_bench(3, 1), "fuse", 0)
        self.refused(NoPlace, full_bench(3, 12), "fuse", 11)
        self.refused(NoPlace, full_bench(3, 12), "take", 12)
        self.refused(NoPlace, full_bench(3, 12), "cleave", 12, 0)

    def test_put(self):
        bench = full_bench(5, 2)
        for thing in odd_things():
            if not (is_word(thing) and len(thing) <= 12):
                for number in (0, 4, 5, -1, True, None):
                    self.refused(NoWord, bench, "put", 1, thing, number)
            if not (is_integer(thing) and 0 <= thing <= 4):
                self.refused(NoNumber, bench, "put", 1, "x", thing)
                self.refused(NoNumber, bench, "put", 0, "y" * 12, thing)
        self.refused(NoWord, bench, "put", 0, "x" * 13, 1)
        for clock in CLOCKS:
            self.refused(NoNumber, full_bench(clock, 1), "put", 0, "x", clock)

    def test_cleave(self):
        for clock in CLOCKS:
            bench = full_bench(clock, 8)
            long = behind(Bag(clock, {"x" * 12: 1}), bag(clock, y=1))
            for part in (nothing(clock), long, bag(clock, xy=1), bag(clock, one=clock - 1)):
                bench.lay(part)
            for number in (0, 1, -1, 10 ** 6, True, None):
                self.refused(IsNothing, bench, "cleave", 8, number)
                self.assertEqual(self.refused(TooLong, bench, "cleave", 9, number).most, 12)
            for thing in odd_things():
                if not (is_integer(thing) and 0 <= thing < 3):
                    self.refused(NoNumber, bench, "cleave", 10, thing)
                if not (is_integer(thing) and thing == 0):
                    self.refused(NoNumber, bench, "cleave", 11, thing)
            self.refused(Full, bench, "cleave", 10, 0)
            self.refused(Full, bench, "cleave", 10, 2)
            self.refused(Full, bench, "cleave", 11, 0)
            bench.take(0)
            bench.cleave(9, 1)
            self.assertEqual(bench.bags()[9:11], [bag(clock, x=1), bag(clock, y=1)])

    def test_back(self):
        bench = full_bench(2, 2)
        bench.back()
        bench.back()
        self.refused(NothingDone, bench, "back")
        bench.lay(one(2))
        self.assertIsNone(bench.back())
        self.refused(NothingDone, bench, "back")

    def test_what_was_refused_is_not_taken_back(self):
        bench = full_bench(2)
        self.refused(Full, bench, "lay", one(2))
        self.refused(NoPlace, bench, "take", 12)
        bench.back()
        self.assertEqual(bench.bags(), full_bench(2, 11).bags())


if __name__ == "__main__":
    unittest.main()
