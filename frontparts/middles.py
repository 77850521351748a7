"""Middle parts, and how many front parts there are by their lengths (3.3)."""

from frontparts.bags import in_order, length
from frontparts.fronts import front_parts
from frontparts.lots import Web, within
from frontparts.rows import rest_behind


def middle_parts(bag):
    """The ascending list of all middle parts: what stands between two front parts, one within the other."""
    web = Web(bag)
    pairs = list(zip(web.parts, web.lots))
    return in_order([rest_behind(front, part) for part, lot in pairs for front, inner in pairs
                     if within(inner, lot)])


def many_by_length(bag):
    """The list with, at each length up to that of the bag, the number of its front parts of this length."""
    lengths = [length(part) for part in front_parts(bag)]
    return [lengths.count(size) for size in range(length(bag) + 1)]
