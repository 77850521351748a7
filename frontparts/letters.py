"""Two bags that tell the letters back, and the peelings that show it (10.1)."""

from frontparts.bags import (
    bag_of, behind, check_clocks, has_only, length, less, number_at, table_of, top,
)
from frontparts.errors import NoLetters, TooLong
from frontparts.kinds import is_from_to
from frontparts.places import in_powers
from frontparts.tables import added, inverse, multiplied

ALPHABET = "xy"
MOST_LETTERS = 12
MOST_POWERS = 13
MOST_PEELINGS = 200
SWAP = ("swap",)


def peelings(one, other):
    """A tuple of peelings that lead from two bags to the letters, with numbers put to them; None if there is none."""
    check_pair(one, other)
    if max(length(one), length(other)) > MOST_LETTERS:
        raise TooLong(MOST_LETTERS)
    found = []
    # As long as one of them has two letters or more, one that can be peeled has the top of a power of the other one.
    while max(length(one), length(other)) > 1:
        step = shortening(one, other)
        if step is None:
            return None
        found.append(step)
        one, other = after(step, one, other)
    for step in straightening(one, other):
        found.append(step)
        one, other = after(step, one, other)
    return tuple(found) if are_letters(one, other) else None


def check_pair(one, other):
    """Refuses two bags of unlike clocks, then bags with the letter z."""
    check_clocks(one, other)
    if not has_only(one, ALPHABET) or not has_only(other, ALPHABET):
        raise NoLetters()


def shortening(one, other):
    """The peeling that makes the longer one of two bags shorter, or the first one if both are as long; or None."""
    if min(length(one), length(other)) < 1:
        return None
    if length(one) < length(other):
        numbers = in_powers(top(other), top(one))
        return None if numbers is None else ("second", numbers)
    numbers = in_powers(top(one), top(other))
    return None if numbers is None else ("first", numbers)


def straightening(one, other):
    """The list of peelings that lead from two bags of at most one letter to the letters, if any do."""
    clock = one.clock
    found = []
    if number_at(one, "x") == 0:
        found.append(SWAP)
        one, other = other, one
    turn = number_at(other, "x") * inverse(number_at(one, "x"), clock)
    number = number_at(other, "") - turn * number_at(one, "")
    found.append(("second", (number % clock, turn % clock)))
    # The second one has y alone now.
    one, other = after(found[-1], one, other)
    turn = number_at(one, "y") * inverse(number_at(other, "y"), clock)
    found.append(("first", (number_at(one, ""), turn % clock)))
    return found


def after(step, one, other):
    """The pair to which a peeling leads."""
    if step[0] == "first":
        return less(one, sum_of_powers(step[1], other)), other
    if step[0] == "second":
        return one, less(other, sum_of_powers(step[1], one))
    return other, one


def sum_of_powers(numbers, bag):
    """The sum of the powers of a bag with these numbers, that of ONE first."""
    table = {}
    for number in reversed(numbers):
        table = added(multiplied(table, table_of(bag), bag.clock), {"": number}, 1, bag.clock)
    return bag_of(bag.clock, table)


def are_letters(one, other):
    """Whether one is x, and the other one y, with a number put to it."""
    return [word for word, _ in one.words] == ["x"] and [word for word, _ in other.words] == ["y"]


def is_peelings(one, other, thing):
    """Whether a thing is a tuple of peelings that lead from two bags to the letters, with numbers put to them."""
    check_pair(one, other)
    if not isinstance(thing, tuple) or len(thing) > MOST_PEELINGS:
        return False
    most = max(length(one), length(other), 1)
    for step in thing:
        if not is_peeling(one.clock, step) or is_lengthening(step, one, other, most):
            return False
        one, other = after(step, one, other)
    return are_letters(one, other)


def is_peeling(clock, thing):
    """Whether a thing has the form of a peeling."""
    if not isinstance(thing, tuple) or len(thing) != 2:
        return thing == SWAP
    if thing[0] not in ("first", "second") or not isinstance(thing[1], tuple) or len(thing[1]) > MOST_POWERS:
        return False
    return all([is_from_to(number, 0, clock - 1) for number in thing[1]])


def is_lengthening(step, one, other, most):
    """Whether a peeling leads to a bag of more letters than most, which neither bag has before."""
    if len(step) == 1:
        return False
    base = other if step[0] == "first" else one
    # Nothing there is as long as such a power, so that taking it off leaves all of its longest words.
    powers = [place for place, number in enumerate(step[1]) if number]
    return max(powers, default=0) * length(base) > most


def twist(one, other):
    """The number by which one other less other one is x y less y x, None if it is no such number but 0."""
    check_pair(one, other)
    # By the ninth fact there is none if no peeling is. None but a swap changes one other less other one, so that
    # of two bags that are equally long, and may have thousands of words, the one is made shorter first.
    while max(length(one), length(other)) > 1:
        step = shortening(one, other)
        if step is None:
            return None
        if length(one) != length(other):
            break
        one, other = after(step, one, other)
    crossed = less(behind(one, other), behind(other, one))
    number = number_at(crossed, "xy")
    if number == 0 or crossed != bag_of(one.clock, {"xy": number, "yx": -number}):
        return None
    return number
