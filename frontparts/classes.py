"""Bags and knots put together by what is alike (6.3)."""

from frontparts.alikes import alike
from frontparts.bags import are_bags, length
from frontparts.carriers import MOST_LETTERS
from frontparts.errors import IsNumber, NoRow, TooLong
from frontparts.lots import Web
from frontparts.orders import way_along

MOST_BAGS = 8


def alike_classes(bags):
    """The ascending list of ascending tuples of places, those of alike bags together."""
    if not are_bags(bags) or len(bags) > MOST_BAGS or any([length(bag) < 0 for bag in bags]):
        raise NoRow()
    if any([length(bag) == 0 for bag in bags]):
        raise IsNumber()
    firsts = firsts_alike(bags)
    return [tuple([place for place, least in enumerate(firsts) if least == first])
            for first in sorted(set(firsts))]


def knot_classes(bag):
    """The list with, for each knot, the least knot such that the bags that stand for both are alike."""
    web = Web(bag)
    # The knots in order are the first order, and whichever bag stands for a knot is alike.
    return firsts_alike(way_along(web, web.numbers(web.lots[-1])))


def firsts_alike(bags):
    """The list with, for each bag, the least place of one that is alike."""
    if any([length(bag) > MOST_LETTERS for bag in bags]):
        raise TooLong(MOST_LETTERS)
    found = []
    for place, bag in enumerate(bags):
        before = [least for least in range(place) if found[least] == least]
        found.append(min([least for least in before if alike(bags[least], bag) is not None], default=place))
    return found
