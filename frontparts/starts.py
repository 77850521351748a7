"""Lots of words with which all long words begin, and what is before them (9.1)."""

from frontparts.bags import Bag, bag_of, has_only, less
from frontparts.errors import NoAlphabet, NoLetters, NoNumber
from frontparts.kinds import is_from_to
from frontparts.rows import rest_ahead

ALPHABETS = ("xy", "xyz")
MOST_LETTERS = 12


def is_full(alphabet, thing):
    """Whether a thing is a bag in which the beginnings of all words that are long enough come together to 1."""
    check_alphabet(alphabet)
    if not isinstance(thing, Bag) or not has_only(thing, alphabet):
        return False
    return beginnings(alphabet, thing) is not None


def beginnings(alphabet, bag):
    """The bag that, with ONE less the letters behind it, is ONE less the bag; None if there is none."""
    check_over(alphabet, bag)
    one = bag_of(bag.clock, {"": 1})
    letters = bag_of(bag.clock, {letter: 1 for letter in alphabet})
    return rest_ahead(less(one, bag), less(one, letters))


def unmet(alphabet, bag, letters):
    """The least word of so many letters whose beginnings come together to another number than 1, or None."""
    check_over(alphabet, bag)
    if not is_from_to(letters, 0, MOST_LETTERS):
        raise NoNumber()
    table = {word: number for word, number in bag.words if len(word) <= letters}
    goes_on = {word[:size]: True for word in table for size in range(len(word))}
    # All words that begin with one from which the bag does not go on have one and the same number.
    waiting = [("", table.get("", 0))]
    while waiting:
        start, told = waiting.pop()
        if start in goes_on:
            longer = [start + letter for letter in reversed(alphabet)]
            waiting.extend([(later, told + table.get(later, 0)) for later in longer])
        elif told % bag.clock != 1:
            return start.ljust(letters, alphabet[0])
    return None


def check_alphabet(thing):
    """Refuses what is none of the two alphabets."""
    if thing not in ALPHABETS:
        raise NoAlphabet()


def check_over(alphabet, bag):
    """Refuses what is no alphabet, then a bag with other letters."""
    check_alphabet(alphabet)
    if not has_only(bag, alphabet):
        raise NoLetters()
