"""Knots, which of them are before which, and the lots of front parts (4.1 and 4.2)."""

from frontparts.bags import is_bag
from frontparts.errors import NoLot, NoPart
from frontparts.kinds import is_from_to
from frontparts.lots import Web


def knots(bag):
    """The ascending list of all knots."""
    return Web(bag).knots


def befores(bag):
    """The ascending list of the pairs of knots of which the first one is before the second one."""
    return Web(bag).pairs()


def lot_of(bag, part):
    """The lot of a front part: the ascending tuple of the knots that are front parts of it."""
    web = Web(bag)
    if not is_bag(part, bag.clock) or part not in web.parts:
        raise NoPart()
    return web.numbers(web.lots[web.parts.index(part)])


def part_of(bag, lot):
    """The front part with just the knots of a lot."""
    web = Web(bag)
    if not are_ascending(lot, len(web.knots)):
        raise NoLot()
    told = sum([1 << knot for knot in lot])
    if told not in web.part_at:
        raise NoLot()
    return web.part_at[told]


def are_ascending(thing, many):
    """Whether a thing is an ascending tuple of numbers below many."""
    if not isinstance(thing, tuple) or not all([is_from_to(number, 0, many - 1) for number in thing]):
        return False
    return all([low < high for low, high in zip(thing, thing[1:])])


def many_parts(bag):
    """The number of front parts."""
    return len(Web(bag).parts)
