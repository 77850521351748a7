"""Systems of rows of bags, solved by one basis: that of their columns, with a unit of its own put to each.

A column has a place for each row, then a place for each bag of a row. Where nothing is left of the rows'
places, the others tell which sum of the bags gave nothing.
"""

from frontparts.bags import all_together, bag_of, behind, is_bag, table_of
from frontparts.bases import basis_of, listed
from frontparts.reducing import reduced
from frontparts.tables import scaled


def basis_of_rows(rows):
    """The basis of the columns of rows with as many bags, all of one clock."""
    columns = []
    for place in range(len(rows[0])):
        units = [{"": 1} if k == place else {} for k in range(len(rows[0]))]
        columns.append([table_of(row[place]) for row in rows] + units)
    return basis_of(columns, rows[0][0].clock)


def solution_of(rows, goals):
    """A tuple of bags, one for each place, by which each row has its goal as sum, or None."""
    clock = rows[0][0].clock
    column = [table_of(goal) for goal in goals] + [{} for _ in rows[0]]
    left = reduced(column, basis_of_rows(rows), clock)
    if any([len(table) > 0 for table in left[:len(rows)]]):
        return None
    return tuple([bag_of(clock, scaled(table, -1, clock)) for table in left[len(rows):]])


def is_solution(rows, goals, thing):
    """Whether a thing is a tuple of bags by which each row has its goal as sum."""
    if not isinstance(thing, tuple) or len(thing) != len(rows[0]):
        return False
    if not all([is_bag(bag, rows[0][0].clock) for bag in thing]):
        return False
    return all([sum_of(row, thing) == goal for row, goal in zip(rows, goals)])


def sum_of(row, bags):
    """The bags of a row, each with its bag behind it, laid together."""
    return all_together([behind(front, back) for front, back in zip(row, bags)])


def idle_tuples(rows):
    """The list of reduced tuples of which just the sums are idle for each row."""
    basis = basis_of_rows(rows)
    clock = rows[0][0].clock
    columns = [column for leads in basis[len(rows):] for column in listed(leads)]
    return [tuple([bag_of(clock, table) for table in column[len(rows):]]) for column in columns]
