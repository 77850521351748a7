"""All ways of a bag, and how far apart they are (5.5)."""

from frontparts.errors import TooMany
from frontparts.lots import Web
from frontparts.orders import apart, orders_behind, turned, way_along

MOST_WAYS = 300


def all_ways(bag):
    """The list of all ways, in the order of their numbers."""
    web = Web(bag)
    return [way_along(web, order) for order in all_orders(web)]


def farthest(bag):
    """The greatest distance between two ways."""
    told = [turned(order) for order in all_orders(Web(bag))]
    return max([apart(one, other) for one in told for other in told])


def all_orders(web):
    """The ascending list of all orders, if they are not too many."""
    if orders_behind(web)[0] > MOST_WAYS:
        raise TooMany(MOST_WAYS)
    begun = [(0, ())]
    for _ in web.knots:
        begun = [(lot + (1 << knot), order + (knot,)) for lot, order in begun for knot in web.nexts(lot)]
    return [order for _, order in begun]
