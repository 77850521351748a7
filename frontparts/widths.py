"""Widest and deepest rows of knots, and covers of the web by rows (5.7)."""

from frontparts.kinds import is_from_to
from frontparts.lots import Web


def widest(bag):
    """The least of the longest ascending tuples of knots none of which is before another one."""
    web = Web(bag)
    # The last knots of a lot are such a tuple, and each such tuple stands last in just one lot.
    return min([lasts(web, lot) for lot in web.lots], key=long_and_least)


def lasts(web, lot):
    """The ascending tuple of the knots of a lot that are before no other one of it."""
    knots = web.numbers(lot)
    return tuple([knot for knot in knots if not any([web.is_before(knot, other) for other in knots])])


def long_and_least(row):
    """What the longest tuples have least, and of these the one that is least as tuples compare."""
    return (-len(row), row)


def deepest(bag):
    """The least of the longest tuples of knots each of which is before the next one."""
    web = Web(bag)
    rows = []
    # A knot is only before knots with greater numbers.
    for knot in reversed(range(len(web.knots))):
        behind = [row for row in rows if web.is_before(knot, row[0])]
        rows.append((knot,) + min(behind, key=long_and_least, default=()))
    return min(rows, key=long_and_least, default=())


def cover(bag):
    """A cover of the web by as few tuples as can be."""
    web = Web(bag)
    numbers = range(len(web.knots))
    elder = {}
    for knot in numbers:
        follow(web, knot, elder, {})
    following = {knot: other for other, knot in elder.items()}
    rows = []
    for knot in numbers:
        if knot not in elder:
            rows.append(row_from(knot, following))
    return tuple(rows)


def follow(web, knot, elder, tried):
    """Gives a knot one to follow it, while those that have one keep one, if this can be. Whether it can.

    The dict elder tells of each knot that follows one, which one. As many as can be follow in the end.
    """
    for other in range(len(web.knots)):
        if web.is_before(knot, other) and other not in tried:
            tried[other] = True
            if other not in elder or follow(web, elder[other], elder, tried):
                elder[other] = knot
                return True
    return False


def row_from(knot, following):
    """The tuple that goes on from a knot as the dict tells."""
    row = [knot]
    while row[-1] in following:
        row.append(following[row[-1]])
    return tuple(row)


def is_cover(bag, thing):
    """Whether a thing is a cover of the web, by few tuples or many."""
    web = Web(bag)
    if not isinstance(thing, tuple) or not all([is_row(web, row) for row in thing]):
        return False
    return sorted([knot for row in thing for knot in row]) == list(range(len(web.knots)))


def is_row(web, thing):
    """Whether a thing is a tuple of one knot or more, each before the next one."""
    if not isinstance(thing, tuple) or len(thing) == 0:
        return False
    if not all([is_from_to(knot, 0, len(web.knots) - 1) for knot in thing]):
        return False
    return all([web.is_before(knot, later) for knot, later in zip(thing, thing[1:])])
