"""Dividing: rests behind and ahead, sums of rows of bags, and what two bags have in common (2.1 to 2.4)."""

from frontparts.bags import (
    are_bags, bag_of, behind, check_clocks, check_something, length, mirrored, plain, table_of,
)
from frontparts.bases import basis_of, listed
from frontparts.errors import NoRow, TooLong, UnlikeClocks
from frontparts.fronts import MOST_LETTERS, front_parts, is_front_part
from frontparts.reducing import divided, reduced
from frontparts.solving import idle_tuples, is_solution, solution_of

MOST_BAGS = 6


def rest_behind(front, bag):
    """The bag that behind the front gives the bag, or None."""
    check_something(front)
    check_clocks(front, bag)
    quotient, left = divided(table_of(bag), table_of(front), bag.clock)
    return None if left else bag_of(bag.clock, quotient)


def rest_ahead(bag, back):
    """The bag that gives the bag with the back behind it, or None."""
    found = rest_behind(mirrored(back), mirrored(bag))
    return None if found is None else mirrored(found)


def is_row(thing):
    """Whether a thing is a list or tuple of 1 to 6 bags of one clock."""
    return are_bags(thing) and len(thing) <= MOST_BAGS


def check_row(row):
    """Refuses what is no row."""
    if not is_row(row):
        raise NoRow()


def check_row_and_bag(row, bag):
    """Refuses what is no row, then a bag of another clock."""
    check_row(row)
    if row[0].clock != bag.clock:
        raise UnlikeClocks()


def basis_of_row(row):
    """The basis of the columns of one place that the bags of a row are."""
    return basis_of([[table_of(bag)] for bag in row], row[0].clock)


def base(row):
    """The one list of plain bags with the same sums, none of which is longer than it must be."""
    check_row(row)
    leads = basis_of_row(row)[0]
    return [bag_of(row[0].clock, column[0]) for column in listed(leads)]


def rest(row, bag):
    """What is left of the bag when sums of the row are taken off as far as can be."""
    check_row_and_bag(row, bag)
    left = reduced([table_of(bag)], basis_of_row(row), bag.clock)
    return bag_of(bag.clock, left[0])


def made(row, bag):
    """A tuple of bags, one for each place, by which the bag is a sum of the row, or None."""
    check_row_and_bag(row, bag)
    return solution_of([row], [bag])


def is_made(row, bag, thing):
    """Whether a thing is such a tuple."""
    check_row_and_bag(row, bag)
    return is_solution([row], [bag], thing)


def idle(row):
    """The one reduced list of tuples, of which just the sums are all idle tuples."""
    check_row(row)
    return idle_tuples([row])


def check_two(one, other):
    """Refuses two bags if either is nothing, then if their clocks are unlike."""
    check_something(one)
    check_something(other)
    check_clocks(one, other)


def continued(one, other):
    """The least common continuation, plain, or None."""
    check_two(one, other)
    found = idle_tuples([[one, other]])
    return plain(behind(one, found[0][0])) if found else None


def front_common(one, other):
    """The greatest common front part."""
    check_two(one, other)
    if max(length(one), length(other)) > MOST_LETTERS:
        raise TooLong(MOST_LETTERS)
    # The bags of the base have the common front parts of both bags, and the last one is the shortest.
    bags = base([one, other])
    common = [part for part in front_parts(bags[-1]) if is_front_part(bags[0], part)]
    return common[-1]
