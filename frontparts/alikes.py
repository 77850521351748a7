"""Alike bags, and the pairs that show it (6.1)."""

from frontparts.bags import bag_of, behind, is_bag, length, mirrored, times, together
from frontparts.carriers import carriers, check_short
from frontparts.lots import Web, divides
from frontparts.rows import base, check_two, rest_behind


def alike(one, other):
    """A pair of bags that shows that two bags are alike, the first one shorter than one; None if there is none."""
    check_two(one, other)
    check_short(one, other)
    if not are_of_one_length(one, other):
        return None
    web = Web(one)
    least = [web.step(0, knot) for knot in web.nexts(0)]
    # With bags of one length, a carrier that has no front in common with one leaves no back in common either.
    found = apart_from(least, bag_of(one.clock, {}), carriers(one, other))
    return None if found is None else (found, rest_behind(one, behind(found, other)))


def are_of_one_length(one, other):
    """Whether two bags are equally long, and no numbers alone."""
    return length(one) == length(other) and length(one) > 0


def apart_from(fronts, begun, more):
    """A bag with a sum of more bags, times numbers, laid to it, that has none of the fronts; None if there is none."""
    for front in fronts:
        if all([divides(front, bag) for bag in [begun, *more]]):
            return None
    if not more:
        return begun
    for number in range(begun.clock):
        found = apart_from(fronts, together(begun, times(more[0], number)), more[1:])
        if found is not None:
            return found
    return None


def is_alike(one, other, thing):
    """Whether a thing is a pair of bags that shows that two bags are alike."""
    check_two(one, other)
    if not are_of_one_length(one, other) or not isinstance(thing, tuple) or len(thing) != 2:
        return False
    if not all([is_bag(bag, one.clock) and length(bag) >= 0 for bag in thing]):
        return False
    carrier, back = thing
    if length(carrier) != length(back) or behind(one, back) != behind(carrier, other):
        return False
    return are_apart(one, carrier) and are_apart(mirrored(back), mirrored(other))


def are_apart(one, other):
    """Whether two bags that have a common continuation have no common front part but ONE."""
    return base([one, other]) == [bag_of(one.clock, {"": 1})]
