"""Exchanges of neighbours in ways, and which bags stand where (5.3 and 5.4)."""

from frontparts.bags import in_order
from frontparts.errors import NoKnot, NoPlace
from frontparts.kinds import is_from_to
from frontparts.lots import Web
from frontparts.orders import apart, read_order, turned, way_along


def exchanged(bag, way, place):
    """The other way that is like this one but for two neighbours, or None."""
    web = Web(bag)
    order = read_order(web, way)
    if not is_from_to(place, 0, len(order) - 2):
        raise NoPlace()
    found = swapped(web, order, place)
    return None if found is None else way_along(web, found)


def swapped(web, order, place):
    """The order with two neighbours exchanged, None if one is before the other."""
    knot, later = order[place:place + 2]
    if web.is_before(knot, later):
        return None
    return order[:place] + (later, knot) + order[place + 2:]


def distance(bag, one, other):
    """The fewest exchanges that lead from one way to another one."""
    web = Web(bag)
    return apart(turned(read_order(web, one)), turned(read_order(web, other)))


def exchanges(bag, one, other):
    """A tuple of as few places as can be at which exchanges lead from one way to another one."""
    web = Web(bag)
    order = read_order(web, one)
    goal = read_order(web, other)
    found = []
    for place, knot in enumerate(goal):
        # The knot passes only those that stand behind it in the goal, so that each pair changes once at most.
        for at in range(order.index(knot) - 1, place - 1, -1):
            order = swapped(web, order, at)
            found.append(at)
    return tuple(found)


def is_exchanges(bag, one, other, thing):
    """Whether a thing is a tuple of places at which exchanges lead from one way to another one."""
    web = Web(bag)
    order = read_order(web, one)
    goal = read_order(web, other)
    if not isinstance(thing, tuple):
        return False
    for place in thing:
        if not is_from_to(place, 0, len(order) - 2):
            return False
        order = swapped(web, order, place)
        if order is None:
            return False
    return order == goal


def at_place(bag, place):
    """The ascending list of the bags that stand at a place in some way."""
    web = Web(bag)
    if not is_from_to(place, 0, len(web.knots) - 1):
        raise NoPlace()
    lots = [lot for lot in web.lots if len(web.numbers(lot)) == place]
    return in_order([web.step(lot, knot) for lot in lots for knot in web.nexts(lot)])


def factors_at(bag, knot):
    """The ascending list of the bags that stand for a knot in some way."""
    web = Web(bag)
    if not is_from_to(knot, 0, len(web.knots) - 1):
        raise NoKnot()
    return in_order([web.step(lot, knot) for lot in web.lots if knot in web.nexts(lot)])
