"""Bags, rows and ways read from texts (12.2 and 12.3)."""

from frontparts.bags import Bag, are_words, is_plain, length
from frontparts.errors import BadText
from frontparts.kinds import CLOCKS, check_clock


def read_bag(clock, text):
    """The bag that a text tells."""
    check_clock(clock)
    check_string(text)
    found = told_bag(clock, text)
    if found is None:
        raise BadText(1)
    return found


def read_row(text):
    """The list of bags that a text tells: a line with the clock, then a line for each bag."""
    check_string(text)
    lines = text.split("\n")
    # What stands behind the last line feed is no line.
    behind = lines.pop()
    clocks = {f"{clock}": clock for clock in CLOCKS}
    found = []
    for number, line in enumerate(lines):
        bag = told_bag(clocks[lines[0]], line) if number > 0 else None
        if bag is not None:
            found.append(bag)
        elif number > 0 or line not in clocks:
            raise BadText(number + 1)
    if not found or behind != "":
        raise BadText(len(lines) + 1)
    return found


def read_way(clock, text):
    """The tuple of plain bags of one letter or more that a text tells."""
    check_clock(clock)
    check_string(text)
    if text == "1":
        return ()
    bags = [told_bag(clock, piece) for piece in text.split(" . ")]
    if any([bag is None or not is_plain(bag) or length(bag) < 1 for bag in bags]):
        raise BadText(1)
    return tuple(bags)


def check_string(text):
    """Refuses what is no string."""
    if not isinstance(text, str):
        raise BadText(0)


def told_bag(clock, text):
    """The bag that a string tells, or None."""
    if text == "0":
        return Bag(clock, {})
    table = {}
    for term in text.split(" + "):
        word, number = told_term(clock, term)
        if word in table:
            return None
        table[word] = number
    return Bag(clock, table) if are_words(clock, table) else None


def told_term(clock, term):
    """The pair of a word and its number that a string tells, which are none if the string has not this form."""
    numbers = {f"{number}": number for number in range(1, clock)}
    if term in numbers:
        return ("", numbers[term])
    start, blank, word = term.rpartition(" ")
    if word == "" or start == "1":
        return (word, None)
    return (word, numbers.get(start) if blank else 1)
