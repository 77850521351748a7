"""Front parts, back parts, and bags that cannot be split (3.2)."""

from frontparts.bags import Bag, bag_of, check_something, in_order, is_bag, is_plain, length, mirrored, plain, table_of
from frontparts.errors import TooLong
from frontparts.reducing import divided
from frontparts.searching import fronts_of

MOST_LETTERS = 12


def front_parts(bag):
    """The ascending list of all front parts."""
    check_splittable(bag)
    tables = fronts_of(table_of(plain(bag)), bag.clock)
    return in_order([bag_of(bag.clock, table) for table in tables])


def is_front_part(bag, thing):
    """Whether a thing is a front part of the bag."""
    check_something(bag)
    if not is_bag(thing, bag.clock) or not is_plain(thing):
        return False
    _, left = divided(table_of(bag), table_of(thing), bag.clock)
    return not left


def back_parts(bag):
    """The ascending list of all back parts."""
    return in_order([plain(mirrored(part)) for part in front_parts(mirrored(bag))])


def is_unsplittable(thing):
    """Whether a thing is a bag of one letter or more with just two front parts."""
    if not isinstance(thing, Bag) or length(thing) < 1:
        return False
    return len(front_parts(thing)) == 2


def check_splittable(bag):
    """Refuses a bag that is nothing, or too long to look for all its front parts."""
    check_something(bag)
    if length(bag) > MOST_LETTERS:
        raise TooLong(MOST_LETTERS)
