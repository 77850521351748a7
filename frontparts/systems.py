"""Systems of rows with goals (2.5)."""

from frontparts.bags import is_bag
from frontparts.errors import NoGoals, NoSystem
from frontparts.rows import is_row
from frontparts.solving import idle_tuples, is_solution, solution_of

MOST_ROWS = 4


def solved(system, goals):
    """A tuple of bags, one for each place of a row, by which each row has its goal as sum, or None."""
    check_system(system)
    check_goals(system, goals)
    return solution_of(system, goals)


def is_solved(system, goals, thing):
    """Whether a thing is such a tuple."""
    check_system(system)
    check_goals(system, goals)
    return is_solution(system, goals, thing)


def idle_all(system):
    """The one reduced list of tuples, of which just the sums are idle for each row."""
    check_system(system)
    return idle_tuples(system)


def check_system(system):
    """Refuses what is no list or tuple of 1 to 4 rows with as many bags, all of one clock."""
    if not isinstance(system, (list, tuple)) or not 1 <= len(system) <= MOST_ROWS:
        raise NoSystem()
    if not all([is_row(row) for row in system]):
        raise NoSystem()
    if any([len(row) != len(system[0]) or row[0].clock != system[0][0].clock for row in system]):
        raise NoSystem()


def check_goals(system, goals):
    """Refuses what is no list or tuple of a bag of the clock for each row."""
    if not isinstance(goals, (list, tuple)) or len(goals) != len(system):
        raise NoGoals()
    if not all([is_bag(goal, system[0][0].clock) for goal in goals]):
        raise NoGoals()
