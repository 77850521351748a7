"""Lots of knots, told of front parts. A lot is one integer here: the knot with number k puts 2 ** k to it."""

from frontparts.bags import table_of
from frontparts.reducing import divided


def lots_of(parts):
    """The lots of an ascending list of all front parts of a bag, in order.

    A part that is no knot has, by the main fact, a lot that no part before it has: that of its knots,
    all of which are shorter. A knot has, besides itself, the lot of the one greatest front part within it.
    """
    knots = []
    found = []
    known = {}
    for part in parts:
        lot = 0
        for place, knot in enumerate(knots):
            if divides(knot, part):
                lot += 1 << place
        if lot in known:
            lot += 1 << len(knots)
            knots.append(part)
        known[lot] = True
        found.append(lot)
    return found


def divides(front, bag):
    """Whether a bag of the same clock is the front with something behind it."""
    _, left = divided(table_of(bag), table_of(front), bag.clock)
    return not left
