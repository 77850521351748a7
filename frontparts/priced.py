"""Cheapest orders, by the prices of knots at places (5.6)."""

from frontparts.errors import NoPrices
from frontparts.kinds import is_from_to
from frontparts.lots import Web

MOST_PRICE = 10 ** 6


def cheapest_order(bag, prices):
    """The pair of the least price of an order, and the least order that has it."""
    price, order, _ = cheapest_row(bag, prices)
    return (price, order)


def many_cheapest(bag, prices):
    """The number of orders that have the least price."""
    _, _, many = cheapest_row(bag, prices)
    return many


def cheapest_row(bag, prices):
    """The least price of an order, the least order that has it, and how many orders have it."""
    web = Web(bag)
    check_prices(web, prices)
    found = {web.lots[-1]: (0, (), 1)}
    # From the lot of all knots down, the same is told of each lot and of the orders of what can follow it.
    for lot in reversed(web.lots[:-1]):
        place = len(web.numbers(lot))
        choices = []
        for knot in web.nexts(lot):
            price, order, many = found[lot + (1 << knot)]
            choices.append((price + prices.get((knot, place), 0), (knot,) + order, many))
        best = min(choices)
        found[lot] = (best[0], best[1], sum([row[2] for row in choices if row[0] == best[0]]))
    return found[0]


def check_prices(web, thing):
    """Refuses what is no dict from pairs of a knot and a place to prices."""
    if not isinstance(thing, dict):
        raise NoPrices()
    if not all([is_pair(web, key) and is_from_to(thing[key], -MOST_PRICE, MOST_PRICE) for key in thing]):
        raise NoPrices()


def is_pair(web, thing):
    """Whether a thing is a pair of a knot and a place."""
    if not isinstance(thing, tuple) or len(thing) != 2:
        return False
    return all([is_from_to(number, 0, len(web.knots) - 1) for number in thing])
