"""The desk: point 13."""

import unittest

from frontparts.bags import behind, length, together
from frontparts.desk import Desk
from frontparts.errors import (
    BadText, IsNothing, IsNumber, NoClock, NoLine, NoName, NoNumber, NothingDone, TooLong,
)
from frontparts.fronts import front_parts
from frontparts.places import change_places, root
from frontparts.reading import read_bag
from frontparts.texts import bag_text, way_text
from frontparts.ways import many_ways, way_at
from frontparts.webs import befores, knots
from frontparts.widths import deepest, widest
from tests.samples import F, FLAT, MANY, many_webs, plain_examples
from tests.tools import CLOCKS, Case, bag, chance_of, is_integer, nothing, odd_things, one, random_bag

ASKING = ("length", "knots", "befores", "wide", "deep", "parts", "ways", "root", "show")
NAMES = ("a", "w", "b", "aa", "ab", "lmn", "abcdefgh", "mnopqrst", "uvw")


def told_desk(clock, bags):
    """A desk with bags under names."""
    desk = Desk(clock)
    for name, part in bags.items():
        assert desk.tell(f"bag {name} {bag_text(part)}") == "ok"
    return desk


def state(desk):
    """All that a desk keeps, and how much can be taken back."""
    names = desk.tell("names")
    kept = [] if names == "none" else names.split(" ")
    return (desk.undoable(), {name: desk.tell(f"show {name}") for name in kept})


class Keeping(Case):

    def test_a_desk_without_names(self):
        for clock in CLOCKS:
            desk = Desk(clock)
            self.assertEqual((desk.tell("names"), desk.undoable()), ("none", 0))
            self.refuses(NothingDone, desk.tell, "undo")
            self.assertEqual(self.refuses(NoName, desk.tell, "show a").name, "a")

    def test_bag_show_drop_and_names(self):
        desk = Desk(3)
        self.assertEqual(desk.tell("bag b 1 + 2 xy"), "ok")
        self.assertEqual(desk.tell("show b"), "2 xy + 1")
        self.assertEqual(desk.tell("bag a 0"), "ok")
        self.assertEqual(desk.tell("bag ab x"), "ok")
        self.assertEqual(desk.tell("bag abcdefgh z + y"), "ok")
        self.assertEqual(desk.tell("names"), "a ab abcdefgh b")
        self.assertEqual([desk.tell(f"show {name}") for name in ("a", "ab", "abcdefgh")], ["0", "x", "y + z"])
        self.assertEqual(desk.tell("bag b 2"), "ok")
        self.assertEqual((desk.tell("show b"), desk.tell("names")), ("2", "a ab abcdefgh b"))
        self.assertEqual(desk.tell("drop ab"), "ok")
        self.assertEqual(desk.tell("names"), "a abcdefgh b")
        self.assertEqual(self.refuses(NoName, desk.tell, "show ab").name, "ab")
        self.assertEqual(desk.undoable(), 6)

    def test_texts_of_all_kinds(self):
        chance = chance_of(2101)
        for turn in range(40):
            clock = CLOCKS[turn % 4]
            part = random_bag(chance, clock, most=5, many=6)
            desk = told_desk(clock, {"q": part})
            self.assertEqual(desk.tell("show q"), bag_text(part))
            self.assertEqual(desk.tell("length q"), str(length(part)))

    def test_sum_and_product(self):
        chance = chance_of(2102)
        for turn in range(24):
            clock = CLOCKS[turn % 4]
            part, other = random_bag(chance, clock), random_bag(chance, clock)
            desk = told_desk(clock, {"a": part, "b": other})
            for word, call in (("sum", together), ("product", behind)):
                self.assertEqual(desk.tell(f"{word} a b c"), "ok")
                self.assertEqual(desk.tell("show c"), bag_text(call(part, other)))
                self.assertEqual(desk.tell(f"{word} b a d"), "ok")
                self.assertEqual(desk.tell("show d"), bag_text(call(other, part)))
                self.assertEqual(desk.tell(f"{word} a a e"), "ok")
                self.assertEqual(desk.tell("show e"), bag_text(call(part, part)))
            self.assertEqual(desk.tell("product a b a"), "ok")
            self.assertEqual([desk.tell("show a"), desk.tell("show b")], [bag_text(behind(part, other)), bag_text(other)])
            self.assertEqual(desk.tell("sum a b b"), "ok")
            self.assertEqual(desk.tell("show b"), bag_text(together(behind(part, other), other)))
            self.assertEqual(desk.undoable(), 10)

    def test_desks_stand_apart(self):
        one_desk, other = Desk(2), Desk(2)
        one_desk.tell("bag a x")
        self.assertEqual((other.tell("names"), other.undoable()), ("none", 0))
        for thing in (other, None, {}, "none", one(2)):
            self.assertNotEqual(one_desk, thing)


class Undoing(Case):

    def test_each_kind_of_line_is_taken_back(self):
        lines = ("bag a x", "bag a y", "bag b xy + 1", "sum a b c", "product b b a", "drop c", "drop a", "bag c 0", "product c b c",
                 "sum b b b", "drop b", "bag b 1")
        desk = Desk(2)
        states = [state(desk)]
        for number, line in enumerate(lines):
            self.assertEqual(desk.tell(line), "ok")
            self.assertEqual(desk.undoable(), number + 1)
            states.append(state(desk))
        for number in range(len(lines) - 1, -1, -1):
            self.assertEqual(desk.tell("undo"), "ok")
            self.assertEqual(state(desk), states[number])
        self.refuses(NothingDone, desk.tell, "undo")

    def test_lines_that_only_ask_are_not_taken_back(self):
        desk = told_desk(2, {"f": F, "g": one(2)})
        for line in [f"{word} f" for word in ASKING] + ["part f 0", "way f 0", "swap f g", "names"]:
            desk.tell(line)
            self.assertEqual(desk.undoable(), 2)
        desk.tell("undo")
        self.assertEqual(desk.tell("names"), "f")

    def test_what_was_taken_back_is_gone(self):
        desk = Desk(5)
        desk.tell("bag a x")
        desk.tell("bag a y")
        desk.tell("undo")
        desk.tell("bag b z")
        desk.tell("undo")
        self.assertEqual(state(desk), (1, {"a": "x"}))
        desk.tell("undo")
        self.assertEqual(state(desk), (0, {}))
        self.refuses(NothingDone, desk.tell, "undo")
        desk.tell("bag a 4")
        self.assertEqual(state(desk), (1, {"a": "4"}))

    def test_many_lines(self):
        desk = Desk(7)
        desk.tell("bag a 0")
        desk.tell("bag b x")
        for _ in range(2000):
            desk.tell("sum a b a")
        self.assertEqual((desk.undoable(), desk.tell("show a")), (2002, f"{2000 % 7} x"))
        for _ in range(2002):
            self.assertEqual(desk.tell("undo"), "ok")
        self.assertEqual(desk.tell("names"), "none")


class Asking(Case):

    def test_what_the_functions_tell(self):
        for part in [*plain_examples(), *many_webs(2103, 16)]:
            desk = told_desk(part.clock, {"ab": part})
            wanted = {
                "show": bag_text(part), "length": str(length(part)), "knots": str(len(knots(part))),
                "befores": " ".join(f"{a}-{b}" for a, b in befores(part)) or "none", "wide": str(len(widest(part))),
                "deep": str(len(deepest(part))), "parts": str(len(front_parts(part))), "ways": str(many_ways(part)),
            }
            if length(part) in range(1, 9):
                wanted["root"] = bag_text(root(part))
            for word, text in wanted.items():
                self.assertEqual(desk.tell(f"{word} ab"), text)
            for number, front in enumerate(front_parts(part)):
                self.assertEqual(desk.tell(f"part ab {number}"), bag_text(front))
            for number in range(min(5, many_ways(part))):
                self.assertEqual(desk.tell(f"way ab {number}"), way_text(way_at(part, number)))

    def test_swap(self):
        chance = chance_of(2104)
        answers = []
        for turn in range(40):
            clock = CLOCKS[turn % 4]
            part = random_bag(chance, clock, "xy", 2, 2)
            other = chance.choice([together(behind(part, part), one(clock)), random_bag(chance, clock, "xy", 2, 2)])
            desk = told_desk(clock, {"a": part, "b": other})
            answers.append(desk.tell("swap a b"))
            self.assertEqual(answers[-1], "yes" if change_places(part, other) else "no")
            self.assertEqual(desk.tell("swap b a"), answers[-1])
            self.assertEqual(desk.tell("swap a a"), "yes")
        self.assertGreater(min(answers.count("yes"), answers.count("no")), 5)

    def test_by_hand(self):
        desk = told_desk(2, {"f": F, "n": one(2)})
        for line, text in (("show f", "yxyx + yx"), ("length f", "4"), ("knots f", "3"), ("befores f", "0-1"), ("wide f", "2"),
                           ("deep f", "2"), ("parts f", "6"), ("part f 0", "1"), ("part f 3", "yx + 1"), ("part f 5", "yxyx + yx"),
                           ("ways f", "3"), ("way f 0", "y . x . yx + 1"), ("way f 1", "y . xy + 1 . x"), ("way f 2", "yx + 1 . y . x"),
                           ("swap f n", "yes"), ("root f", "yx"), ("names", "f n")):
            self.assertEqual(self.answers(desk.tell, line), text)
            self.assertIs(type(desk.tell(line)), str)

    def test_numbers_alone_and_nothing(self):
        for clock in CLOCKS:
            desk = told_desk(clock, {"n": bag(clock, one=clock - 1), "o": nothing(clock)})
            for line, text in (("show n", str(clock - 1)), ("length n", "0"), ("knots n", "0"), ("befores n", "none"), ("wide n", "0"),
                               ("deep n", "0"), ("parts n", "1"), ("part n 0", "1"), ("ways n", "1"), ("way n 0", "1"), ("swap n o", "yes"),
                               ("show o", "0"), ("length o", "-1")):
                self.assertEqual(desk.tell(line), text)

    def test_12_letters(self):
        desk = told_desk(5, {"m": MANY})
        self.assertEqual([desk.tell(f"{word} m") for word in ("length", "knots", "wide", "deep", "parts", "ways")],
                         ["12", "12", "5", "3", "432", "1663200"])
        self.assertEqual(desk.tell("way m 1663199"), way_text(way_at(MANY, 1663199)))
        self.refuses(NoNumber, desk.tell, "way m 1663200")
        self.assertEqual(told_desk(3, {"a": FLAT}).tell("befores a"), "none")

    def test_bags_may_be_longer_than_their_texts_may_be(self):
        desk = told_desk(2, {"a": bag(2, xyzxyzxyz=1)})
        desk.tell("product a a b")
        self.assertEqual((desk.tell("show b"), desk.tell("length b")), ("xyzxyzxyz" * 2, "18"))
        self.assertEqual(self.refuses(TooLong, desk.tell, "parts b").most, 12)
        self.assertEqual(self.refuses(BadText, desk.tell, "bag c " + "xyzxyzxyz" * 2).line, 1)


class Refusing(Case):

    def desk(self, clock=3):
        """A desk with two names and one line that was taken back."""
        desk = told_desk(clock, {"a": bag(clock, xy=1), "b": nothing(clock), "c": one(clock)})
        desk.tell("undo")
        return desk

    def refused(self, error, line, desk=None):
        """A line is refused, and nothing has changed."""
        desk = self.desk() if desk is None else desk
        before = state(desk)
        found = self.refuses(error, desk.tell, line)
        self.assertEqual(state(desk), before)
        return found

    def test_no_clock(self):
        self.refuses_all_but(lambda thing: is_integer(thing) and thing in CLOCKS, NoClock, Desk)
        for wrong in (0, 1, 4, 6, 8, 11, -2, True, "2", None, one(2), [2]):
            self.refuses(NoClock, Desk, wrong)

    def test_what_is_no_line(self):
        for thing in odd_things():
            self.refused(NoLine, thing)
        for line in ("", " ", "names ", " names", "names a", "Names", "undo a", "undo ", "undo 1", "drop", "drop ", "drop  a", " drop a",
                     "drop a ", "drop a b", "drop a 1", "show", "show a b", "bag", "bag ", "bag a", "bag a ", "bag  a x", " bag a x",
                     "bag\ta x", "bag a\tx", "baga x", "sum a b", "sum a b ", "sum a b c d", "sum a  b c", "sum", "product a b",
                     "product a b c ", "swap a", "swap a b c", "swap a 1", "swap", "part a", "part a b", "part 1 a", "part a 1 1", "part 1",
                     "part a  1", "part a 1 ", "way a", "way", "way a x", "ways", "ways a 0", "parts a 0", "length a 1", "root", "root a a",
                     "wide", "deep a b", "knots", "befores", "befores a b", "tell a", "lay a", "take 0", "names\n", "show\ta", "\tnames"):
            self.refused(NoLine, line)

    def test_line_feeds(self):
        for line in ("names\n", "\nnames", "show a\n", "bag a x\n", "bag a x\ny", "show a\nshow a", "\n", "undo\n", "drop\na"):
            self.refused(NoLine, line)

    def test_names(self):
        for name in ("", "x", "y", "z", "A", "ax", "a1", "1", "a_b", "abcdefghi", "a-b", "abcdefgx", "a.", "q+", "xyz", "w" * 9):
            for line in ("bag {} x", "drop {}", "show {}", "sum {} a b", "sum a {} b", "sum a b {}", "product {} a b", "product a b {}",
                         "length {}", "part {} 0", "way {} 0", "swap {} a", "swap a {}", "root {}"):
                self.refused(NoLine, line.format(name))
        for name in NAMES:
            desk = Desk(2)
            self.assertEqual(desk.tell(f"bag {name} x"), "ok")
            self.assertEqual((desk.tell(f"show {name}"), desk.tell("names")), ("x", name))

    def test_numbers(self):
        for number in ("", "-1", "+1", "00", "01", "0000000000", "1000000000", "9999999999", "1.", "1.0", "1e1", "0x1", "1_0", "a", "x",
                       "- 1", "one", "1a"):
            self.refused(NoLine, f"part a {number}")
            self.refused(NoLine, f"way a {number}")
        for number in ("3", "10", "999999999", "100000000"):
            self.refused(NoNumber, f"part a {number}")
            self.refused(NoNumber, f"way a {number}")
        self.refused(NoNumber, "way a 1")
        self.assertEqual([self.desk().tell(f"part a {number}") for number in range(3)], ["1", "x", "xy"])

    def test_bad_texts(self):
        for text in (" ", "  x", " x", "x ", "x  + y", "x y", "1 x", "x + x", "3 x", "3", "a", "x" * 13, "00", "x+y", "\t", "x\t", "?"):
            for name in ("a", "b", "c"):
                self.assertEqual(self.refused(BadText, f"bag {name} {text}").line, 1)
            with self.assertRaises(BadText):
                read_bag(3, text)

    def test_no_name(self):
        for line, name in [(f"{word} c", "c") for word in ASKING + ("drop",)] + [
                ("part c 0", "c"), ("way d 999999999", "d"), ("swap c d", "c"), ("swap a d", "d"), ("swap d a", "d"), ("sum c a a", "c"),
                ("sum a c a", "c"), ("sum c d e", "c"), ("sum a d c", "d"), ("product d c a", "d"), ("product b e e", "e"),
                ("product c c c", "c"), ("show abcdefgh", "abcdefgh")]:
            self.assertEqual(self.refused(NoName, line).name, name)
        # The name under which a bag is kept need not be there.
        self.assertEqual(self.desk().tell("sum a b e"), "ok")

    def test_what_the_functions_raise(self):
        for clock in CLOCKS:
            desk = told_desk(clock, {"n": bag(clock, one=clock - 1), "o": nothing(clock), "l": bag(clock, xyzxyzxyz=1),
                                     "m": bag(clock, xyzx=1)})
            desk.tell("product l m m")
            for line in ("knots {}", "befores {}", "wide {}", "deep {}", "parts {}", "part {} 0", "part {} 999999999",
                         "ways {}", "way {} 0", "way {} 7"):
                self.refused(IsNothing, line.format("o"), desk)
                self.assertEqual(self.refused(TooLong, line.format("m"), desk).most, 12)
            self.refused(IsNothing, "root o", desk)
            for line in ("root l", "root m"):
                self.assertEqual(self.refused(TooLong, line, desk).most, 8)
            self.refused(IsNumber, "root n", desk)
            self.refused(NoNumber, "part n 1", desk)
            self.refused(NoNumber, "way n 1", desk)
            self.refused(NoNumber, "part l 10", desk)

    def test_errors_in_their_order(self):
        # No line, then a bad text, then no name, then what the functions raise.
        self.refused(NoLine, "bag x ?")
        self.refused(NoLine, "show x")
        self.refused(NoLine, "part d 01")
        self.refused(NoLine, "sum d e x")
        self.refused(NoLine, "bag a x + \n")
        self.refused(BadText, "bag d ?")
        self.assertEqual(self.refused(NoName, "part d 999999999").name, "d")
        self.refused(IsNothing, "part b 999999999")
        desk = Desk(2)
        self.refused(NoLine, "undo ", desk)
        self.refused(NothingDone, "undo", desk)

    def test_what_was_refused_is_not_taken_back(self):
        desk = self.desk()
        for line in ("bag a ?", "drop d", "sum a d a", "part a 9", "bag x x", "root b"):
            with self.assertRaises(ValueError):
                desk.tell(line)
        self.assertEqual(desk.undoable(), 2)
        desk.tell("undo")
        self.assertEqual(state(desk), (1, {"a": "xy"}))


if __name__ == "__main__":
    unittest.main()
