"""Bags that change places, their one root, and what products of two bags satisfy (point 7)."""

from frontparts.bags import (
    bag_of, behind, check_clocks, check_something, length, less, level_of, plain, table_of,
)
from frontparts.errors import IsNumber, NoNumber, TooLong
from frontparts.fronts import front_parts
from frontparts.kinds import is_from_to
from frontparts.reducing import divided
from frontparts.tables import added, first_word, inverse, scaled

MOST_LETTERS = 8
MOST_SIGNS = 5


def change_places(one, other):
    """Whether two bags give the same whichever of them stands first."""
    return behind(one, other) == behind(other, one)


def root(bag):
    """The one bag of whose powers just those are sums that change places with the bag."""
    check_something(bag)
    check_no_number(bag)
    check_short(bag)
    # The bag is a sum of powers of its root, so that without its empty word it begins with the root.
    free = less(bag, level_of(bag, 0))
    for part in front_parts(free):
        # Of all that change places with the bag the root is the least; if it is not the whole, it is there twice.
        if 0 < 2 * length(part) <= length(bag) and change_places(part, bag):
            return part
    return plain(free)


def check_no_number(bag):
    """Refuses a number alone."""
    if length(bag) == 0:
        raise IsNumber()


def check_short(bag):
    """Refuses a bag for which no root is looked for."""
    if length(bag) > MOST_LETTERS:
        raise TooLong(MOST_LETTERS)


def in_powers(bag, base):
    """The tuple of the numbers that the powers of the base have in the bag, or None if it is no sum of these."""
    check_something(base)
    check_no_number(base)
    check_clocks(bag, base)
    left = table_of(bag)
    found = []
    while left:
        # Behind the base stands what the higher powers give, so that only the number of ONE is left.
        left, rest = divided(left, table_of(base), bag.clock)
        found.append(rest.pop("", 0))
        if rest:
            return None
    return tuple(found)


def one_root(one, other):
    """The root of two bags of one letter or more that change places, else None."""
    check_clocks(one, other)
    check_short(one)
    check_short(other)
    if min(length(one), length(other)) < 1:
        return None
    found = root(one)
    return None if in_powers(other, found) is None else found


def products(one, other, most):
    """The list of the pairs (signs, bag) of all products of at most so many bags, 0 for one and 1 for other."""
    check_most(one, other, most)
    found = [("", bag_of(one.clock, {"": 1}))]
    last = found
    for _ in range(most):
        last = [(signs + sign, behind(bag, more)) for signs, bag in last for sign, more in (("0", one), ("1", other))]
        found = found + last
    return found


def check_most(one, other, most):
    """Refuses two bags of unlike clocks, then what is no number of signs."""
    check_clocks(one, other)
    if not is_from_to(most, 0, MOST_SIGNS):
        raise NoNumber()


def dependence(one, other, most):
    """The first sum of products that is nothing, as a dict from signs to numbers, or None."""
    check_most(one, other, most)
    rows = []
    # By the seventh fact there is none unless they change places, and then 10 less 01 is nothing.
    for signs, bag in products(one, other, min(most, 2)):
        left = table_of(bag)
        numbers = {signs: 1}
        for head, table, known in rows:
            number = left.get(head, 0)
            left = added(left, table, -number, bag.clock)
            numbers = added(numbers, known, -number, bag.clock)
        if not left:
            return numbers
        head = first_word(left)
        turn = inverse(left[head], bag.clock)
        rows.append((head, scaled(left, turn, bag.clock), scaled(numbers, turn, bag.clock)))
    return None
