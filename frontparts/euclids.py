"""What two bags have in common behind, and dividing to and fro (2.6 and 2.7)."""

from frontparts.bags import are_bags, bag_of, behind, length, mirrored, plain, table_of, together
from frontparts.errors import NoRow
from frontparts.reducing import divided
from frontparts.rows import check_two, continued, front_common

MOST_BAGS = 8


def back_common(one, other):
    """The greatest common back part."""
    return plain(mirrored(front_common(mirrored(one), mirrored(other))))


def continued_ahead(one, other):
    """The least plain bag that is something with the one behind, and something with the other one, or None."""
    found = continued(mirrored(one), mirrored(other))
    return None if found is None else plain(mirrored(found))


def continuant(bags):
    """The continuant of a row of at most 8 bags."""
    if not are_bags(bags) or len(bags) > MOST_BAGS:
        raise NoRow()
    before = bag_of(bags[0].clock, {})
    found = bag_of(bags[0].clock, {"": 1})
    for bag in bags:
        longer = together(behind(found, bag), before)
        before = found
        found = longer
    return found


def quotients(one, other):
    """The tuple of quotients of dividing two bags to and fro, or None."""
    check_two(one, other)
    clock = one.clock
    found = []
    while one.words and other.words:
        quotient, left = divided(table_of(one), table_of(other), clock)
        left = bag_of(clock, left)
        if length(left) >= length(other):
            return None
        found.append(bag_of(clock, quotient))
        one = other
        other = left
    return tuple(found)
