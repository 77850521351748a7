"""Stocks of bags with prices, and what can be made of them (8.1)."""

from frontparts.bags import behind, is_bag, is_plain, length
from frontparts.errors import NoStock
from frontparts.fronts import front_parts
from frontparts.kinds import is_from_to

MOST_BAGS = 12
MOST_PRICE = 10 ** 6


def cheapest(goal, stock):
    """The pair of the least price and a row of stock bags that has it and makes the goal, or None."""
    found = made_parts(goal, stock)[-1]
    return None if found is None else found[:2]


def heights(goal, stock):
    """The dict from the numbers of the front parts that can be made to their least prices."""
    return {number: found[0] for number, found in enumerate(made_parts(goal, stock)) if found is not None}


def many_rows(goal, stock):
    """The number of rows of stock bags that make the goal."""
    found = made_parts(goal, stock)[-1]
    return 0 if found is None else found[2]


def made_parts(goal, stock):
    """The list with, for each front part, the least price, a row that has it and how many rows make it, or None."""
    parts = front_parts(goal)
    check_stock(goal.clock, stock)
    places = {part.words: number for number, part in enumerate(parts)}
    found = [None for _ in parts]
    found[0] = (0, (), 1)
    # Whatever begins a row that makes the goal is a front part, and shorter than what the row goes on to.
    for number, part in enumerate(parts):
        if found[number] is not None:
            for entry, (bag, price) in enumerate(stock):
                if length(part) + length(bag) <= length(goal):
                    later = places.get(behind(part, bag).words)
                    if later is not None:
                        found[later] = cheaper(found[later], found[number], entry, price)
    return found


def cheaper(known, before, entry, price):
    """What is told of a front part, once one more stock bag is known that leads to it from one before."""
    cost, row, many = before
    if known is None:
        return (cost + price, row + (entry,), many)
    if cost + price < known[0]:
        return (cost + price, row + (entry,), known[2] + many)
    return (known[0], known[1], known[2] + many)


def check_stock(clock, thing):
    """Refuses what is no tuple of 1 to 12 pairs of plain bags of the clock, none twice, and prices."""
    if not isinstance(thing, tuple) or not 1 <= len(thing) <= MOST_BAGS:
        raise NoStock()
    if not all([is_entry(clock, entry) for entry in thing]):
        raise NoStock()
    if len({bag.words: price for bag, price in thing}) < len(thing):
        raise NoStock()


def is_entry(clock, thing):
    """Whether a thing is a pair of a plain bag of one letter or more and a price."""
    if not isinstance(thing, tuple) or len(thing) != 2:
        return False
    bag, price = thing
    if not is_bag(bag, clock) or length(bag) < 1 or not is_plain(bag):
        return False
    return is_from_to(price, 0, MOST_PRICE)
