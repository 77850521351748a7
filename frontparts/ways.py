"""Ways and orders, and their numbers (5.1 and 5.2)."""

from frontparts.errors import NoNumber, NoOrder
from frontparts.kinds import is_from_to
from frontparts.lots import Web
from frontparts.orders import is_order, number_of, order_along, order_at, orders_behind, read_order, way_along


def way_of(bag, order):
    """The way that an order tells."""
    web = Web(bag)
    if not is_order(web, order):
        raise NoOrder()
    return way_along(web, order)


def order_of(bag, way):
    """The order that a way tells."""
    return read_order(Web(bag), way)


def is_way(bag, thing):
    """Whether a thing is a way of the bag."""
    return order_along(Web(bag), thing) is not None


def many_ways(bag):
    """The number of ways."""
    return orders_behind(Web(bag))[0]


def way_at(bag, number):
    """The way with this number."""
    web = Web(bag)
    if not is_from_to(number, 0, orders_behind(web)[0] - 1):
        raise NoNumber()
    return way_along(web, order_at(web, number))


def index_of(bag, way):
    """The number of a way."""
    web = Web(bag)
    return number_of(web, read_order(web, way))
