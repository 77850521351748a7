"""Orders of a web, and the ways that they tell: the third fact, both ways, and how orders are numbered."""

from frontparts.bags import is_bag
from frontparts.errors import NoWay
from frontparts.kinds import is_from_to


def is_order(web, thing):
    """Whether a thing is a tuple of all knots in which each stands behind those before it."""
    if not isinstance(thing, tuple) or len(thing) != len(web.knots):
        return False
    lot = 0
    for knot in thing:
        if not is_from_to(knot, 0, len(web.knots) - 1) or knot not in web.nexts(lot):
            return False
        lot += 1 << knot
    return True


def way_along(web, order):
    """The way that an order tells."""
    lot = 0
    found = []
    for knot in order:
        found.append(web.step(lot, knot))
        lot += 1 << knot
    return tuple(found)


def order_along(web, thing):
    """The order that a way tells, None for what is no way."""
    if not isinstance(thing, tuple) or len(thing) != len(web.knots):
        return None
    lot = 0
    found = []
    for bag in thing:
        if not is_bag(bag, web.clock):
            return None
        fitting = [knot for knot in web.nexts(lot) if web.step(lot, knot) == bag]
        if not fitting:
            return None
        found.append(fitting[0])
        lot += 1 << fitting[0]
    return tuple(found)


def read_order(web, thing):
    """The order that a way tells; what is no way is refused."""
    order = order_along(web, thing)
    if order is None:
        raise NoWay()
    return order


def orders_behind(web):
    """The dict from each lot to the number of orders in which all knots that it has not can follow."""
    found = {web.lots[-1]: 1}
    for lot in reversed(web.lots[:-1]):
        found[lot] = sum([found[lot + (1 << knot)] for knot in web.nexts(lot)])
    return found


def order_at(web, number):
    """The order with this number, as tuples compare."""
    behind = orders_behind(web)
    lot = 0
    found = []
    while len(found) < len(web.knots):
        for knot in web.nexts(lot):
            later = behind[lot + (1 << knot)]
            if number < later:
                break
            number -= later
        found.append(knot)
        lot += 1 << knot
    return tuple(found)


def number_of(web, order):
    """The number that an order has then: that of all orders that are less at some place."""
    behind = orders_behind(web)
    lot = 0
    found = 0
    for knot in order:
        found += sum([behind[lot + (1 << other)] for other in web.nexts(lot) if other < knot])
        lot += 1 << knot
    return found


def turned(order):
    """The pairs of knots that stand the other way about than they are numbered, as bits of one integer."""
    many = len(order)
    found = 0
    for place, knot in enumerate(order):
        found += sum([1 << (knot * many + other) for other in order[:place] if other > knot])
    return found


def apart(one, other):
    """The number of pairs that stand the other way about in one order than in another one, both told by turned."""
    unlike = one ^ other
    return f"{unlike:b}".count("1")
