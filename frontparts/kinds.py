"""What the document calls an integer, a clock and a word, told of any object."""

from frontparts.errors import NoClock

CLOCKS = (2, 3, 5, 7)
LETTERS = "xyz"


def is_integer(thing):
    """A flag is an int for Python, but no integer here."""
    return isinstance(thing, int) and not isinstance(thing, bool)


def is_from_to(thing, low, high):
    """Whether a thing is an integer from low to high."""
    return is_integer(thing) and low <= thing <= high


def is_clock(thing):
    """Whether a thing is a clock."""
    return is_integer(thing) and thing in CLOCKS


def check_clock(thing):
    """Refuses what is no clock."""
    if not is_clock(thing):
        raise NoClock()


def is_word(thing):
    """Whether a thing is a word, of any length."""
    return isinstance(thing, str) and thing.strip(LETTERS) == ""
