"""Bags, rows and ways read from texts: points 12.2 and 12.3."""

import unittest

from frontparts.bags import Bag, behind, power
from frontparts.errors import BadText, NoClock
from frontparts.listing import all_ways
from frontparts.reading import read_bag, read_row, read_way
from frontparts.texts import bag_text, row_text, way_text
from tests.samples import CHAIN, F, bags_for_texts, many_webs, plain_examples
from tests.tools import CLOCKS, Case, bag, chance_of, deep, is_integer, nothing, odd_things, one, pairs, words_up_to

# None of these is a text of a bag, whatever the clock.
WRONG = (
    "", " ", "x ", " x", "x  + y", "x +  y", "x +", "+ x", " + x", "x + ", "x+y", "x +y", "x+ y", "x + + y", "x\ty", "x\n", "\nx",
    "x + y\n", "x y", "xy z", "2x", "x2", "x 2", "1 x", "01", "00", "0x", "0 x", "x + 0", "0 + x", "0 + 0", "00 x", "01 x", "02 x",
    "+1", "-1", "-x", "- x", "7", "8", "10", "7 x", "9 x", "11 x", "x + x", "x + y + x", "1 + 1", "xy + x + xy", "a", "X", "w",
    "x + a", "1  x", "2  x", " 1", "1 ", "1 + ", "x . y", ".", "x*y", "xx1", "None", "2 ", "2 + ", " 2", "x" * 13, "x + " + "y" * 13,
    "1 1", "2 2", "2 1", "1 + 2 + 1", "\t", "x +\ty", "2\tx", "z+", "x - y", "{}", "1.", "1e1", "0b1", "1_0", "1,",
)


class Bags(Case):

    def bad(self, clock, text, line=1):
        self.assertEqual(self.refuses(BadText, read_bag, clock, text).line, line, (clock, text))

    def test_what_was_told_is_read(self):
        for part in bags_for_texts(2001, 15, 12):
            self.is_bag(self.answers(read_bag, part.clock, bag_text(part)), part.clock, part.words)

    def test_words_in_any_order(self):
        chance = chance_of(2002)
        for part in bags_for_texts(2003, 15, 12):
            terms = bag_text(part).split(" + ")
            chance.shuffle(terms)
            self.is_bag(read_bag(part.clock, " + ".join(terms)), part.clock, part.words)

    def test_by_hand(self):
        for clock in CLOCKS:
            self.is_bag(read_bag(clock, "0"), clock, ())
            self.is_bag(read_bag(clock, "1"), clock, (("", 1),))
            self.is_bag(read_bag(clock, "1 + x + yx"), clock, (("yx", 1), ("x", 1), ("", 1)))
        self.is_bag(read_bag(3, "2 xy + x + 1"), 3, (("xy", 2), ("x", 1), ("", 1)))
        self.is_bag(read_bag(7, "6 + 5 z + 4 zz"), 7, (("zz", 4), ("z", 5), ("", 6)))

    def test_numbers_of_the_clock(self):
        for clock in CLOCKS:
            for number in range(12):
                for text, words in ((f"{number} x", (("x", number),)), (f"y + {number}", (("y", 1), ("", number)))):
                    if 1 < number < clock or (number == 1 and words[0][1] == 1 and "y" in text):
                        self.is_bag(read_bag(clock, text), clock, words)
                    else:
                        self.bad(clock, text)

    def test_what_is_no_text(self):
        for clock in CLOCKS:
            for text in WRONG:
                self.bad(clock, text)

    def test_one_sign_changed(self):
        chance = chance_of(2004)
        right = 0
        for part in [*bags_for_texts(2005, 6, 12)] * 2:
            text = bag_text(part)
            at = chance.randrange(len(text) + 1)
            changed = text[:at] + chance.choice("xyz012 +") + text[at + chance.randint(0, 1):]
            try:
                found = read_bag(part.clock, changed)
            except BadText as caught:
                self.assertEqual(caught.line, 1)
            else:
                # What is read tells the like again, but for the order of its words.
                self.assertEqual(sorted(bag_text(found).split(" + ")), sorted(changed.split(" + ")))
                right += 1
        self.assertGreater(right, 10)

    def test_12_letters_and_300_words(self):
        words = [word for word in words_up_to("xyz", 6)]
        self.is_bag(read_bag(2, " + ".join(words[1:301])), 2, pairs(2, {word: 1 for word in words[1:301]}))
        self.is_bag(read_bag(2, " + ".join(["1"] + words[1:300])), 2, pairs(2, {word: 1 for word in words[:300]}))
        self.bad(2, " + ".join(words[1:302]))
        self.bad(2, " + ".join(["1"] + words[1:301]))
        self.bad(2, " + ".join(words[1:] * 30))
        self.is_bag(read_bag(7, "6 " + "xyz" * 4), 7, (("xyz" * 4, 6),))
        self.bad(7, "6 " + "xyz" * 4 + "x")
        self.bad(2, bag_text(power(bag(2, xyz=1), 5)))

    def test_errors_in_their_order(self):
        for thing in odd_things():
            if not (is_integer(thing) and thing in CLOCKS):
                for text in ("x", "", None, 7, deep(list)):
                    self.refuses(NoClock, read_bag, thing, text)
                    self.refuses(NoClock, read_way, thing, text)
            for clock in CLOCKS:
                if type(thing) is not str:
                    self.bad(clock, thing, 0)
                    self.assertEqual(self.refuses(BadText, read_way, clock, thing).line, 0)
        for thing in odd_things():
            if type(thing) is str and thing not in ("x", "xy", "z" * 12):
                self.bad(2, thing)


class Rows(Case):

    def bad(self, text, line):
        self.assertEqual(self.refuses(BadText, read_row, text).line, line, text)

    def test_what_was_told_is_read(self):
        bags = list(bags_for_texts(2006, 4, 12))
        for clock in CLOCKS:
            row = [part for part in bags if part.clock == clock]
            for told in (row, row[:1], tuple(row[1:]), row * 40):
                found = self.answers(read_row, row_text(told))
                self.assertEqual((found, type(found)), (list(told), list))

    def test_by_hand(self):
        self.assertEqual(read_row("3\n1 + x\n0\n"), [bag(3, x=1, one=1), nothing(3)])
        self.assertEqual(read_row("7\n6\n"), [bag(7, one=6)])

    def test_the_first_line_that_is_wrong(self):
        lines = ["5", "x", "4 y + 1", "0", "xyz"]
        for at in range(len(lines)):
            for wrong in ("", "05", " 5", "5 x", "x ", "1 x", "x + x", "x" * 13, "-", "7 y"):
                told = lines[:at] + [wrong] + lines[at + 1:]
                for end in ("\n", "\nx", "\n\n", "\n?\n"):
                    self.bad("\n".join(told) + end, at + 1)
                    self.bad("\n".join(told + ["?"]) + end, at + 1)
                if wrong:
                    self.bad("\n".join(told), at + 1)
        self.assertEqual(len(read_row("\n".join(lines) + "\n")), 4)

    def test_the_line_of_the_clock(self):
        for clock in ("", "0", "1", "4", "6", "8", "11", "02", "2 ", " 2", "+2", "x", "22", "2 3", "2.", "-2", "2\t", "1 + 1", "None"):
            self.bad(clock + "\nx\n", 1)
            self.bad(clock + "\n", 1)
            self.bad(clock + "\n?\n", 1)
        for clock in CLOCKS:
            self.assertEqual(read_row(f"{clock}\nx\n"), [bag(clock, x=1)])
            self.bad(f"{clock}\n{clock}\n", 2)
            self.assertEqual(read_row(f"{clock}\n{clock - 1}\n"), [bag(clock, one=clock - 1)])

    def test_what_is_lacking(self):
        # Neither clock nor bag, no bag, or no line feed at the end: one line more than there are line feeds.
        for text, line in (("", 1), ("2", 1), ("2\n", 2), ("2\nx", 2), ("2\nx\ny", 3), ("2\nx\n ", 3), ("2\nx\nx\nx\n0", 5),
                           ("x", 1), ("?", 1), ("2\n?", 2), ("2\nx\n?", 3), (" ", 1), ("2\nx\n2", 3)):
            self.bad(text, line)
        # An empty line that is closed is a line that has not its form.
        for text, line in (("\n", 1), ("2\n\n", 2), ("2\nx\n\n", 3), ("\n2\nx\n", 1), ("2\n\nx\n", 2), ("2\nx\n\ny\n", 3)):
            self.bad(text, line)

    def test_bags_are_read_as_by_read_bag(self):
        for text in WRONG:
            if "\n" not in text:
                self.bad(f"3\nx\n{text}\n", 3)
                self.bad(f"3\n{text}\nx\n", 2)
        words = words_up_to("xyz", 6)
        self.assertEqual(len(read_row("2\n" + " + ".join(words[1:301]) + "\n")[0].words), 300)
        self.bad("2\nx\n" + " + ".join(words[1:302]) + "\n", 3)

    def test_what_is_no_string(self):
        for thing in odd_things():
            if type(thing) is not str:
                self.bad(thing, 0)
            else:
                self.bad(thing, 1)

    def test_the_list_is_new(self):
        found = read_row("2\nx\n")
        found.append(one(2))
        self.assertEqual(read_row("2\nx\n"), [bag(2, x=1)])


class Ways(Case):

    def bad(self, clock, text, line=1):
        self.assertEqual(self.refuses(BadText, read_way, clock, text).line, line, (clock, text))

    def test_what_was_told_is_read(self):
        for part in [*plain_examples(), *many_webs(2007, 12), F, CHAIN]:
            for way in all_ways(part)[:5]:
                found = self.answers(read_way, part.clock, way_text(way))
                self.assertEqual((found, type(found)), (way, tuple))

    def test_by_hand(self):
        for clock in CLOCKS:
            self.assertEqual(read_way(clock, "1"), ())
            self.assertEqual(read_way(clock, "x"), (bag(clock, x=1),))
            self.assertEqual(read_way(clock, "1 + x . yx . y"), (bag(clock, x=1, one=1), bag(clock, yx=1), bag(clock, y=1)))
            # The bags need not be unsplittable, and are read in any order of their words.
            self.assertEqual(read_way(clock, "xx . x + xx"), (bag(clock, xx=1), bag(clock, xx=1, x=1)))
        self.assertEqual(read_way(5, "2 y + x"), (bag(5, x=1, y=2),))
        self.assertEqual(len(read_way(5, " . ".join(["x"] * 500))), 500)

    def test_what_is_no_way(self):
        for clock in CLOCKS:
            for text in WRONG:
                if text != "x . y":
                    self.bad(clock, text)
                    self.bad(clock, text + " . x")
                    self.bad(clock, "x . y . " + text)
            for text in ("0", "x . 0", "0 . x", "1 . x", "x . 1", "x . 1 . x", "1 . 1", " . ", "x . ", " . x", "x .y", "x. y", "x.y",
                         "x  . y", "x .  y", "x . y\n", "x .. y", "x . . y", "x + y . ", ".", "1 ", "1\n", "01"):
                self.bad(clock, text)
            # The first word of a plain bag has the number 1.
            if clock > 2:
                for text in ("2 x", "x . 2 x", "2 x + y", "y + 2 x", "2", "2 . x", "2 xy + x . y"):
                    self.bad(clock, text)
                self.assertEqual(read_way(clock, "2 y + x . y"), (bag(clock, x=1, y=2), bag(clock, y=1)))

    def test_12_letters(self):
        self.assertEqual(read_way(2, "x" * 12 + " . x"), (Bag(2, {"x" * 12: 1}), bag(2, x=1)))
        self.bad(2, way_text((behind(Bag(2, {"x" * 12: 1}), bag(2, x=1)),)))


if __name__ == "__main__":
    unittest.main()
