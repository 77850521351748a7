"""Systems of rows with goals: point 2.5."""

import itertools
import unittest

from frontparts.bags import Bag, behind, times, together
from frontparts.errors import NoGoals, NoSystem
from frontparts.rows import idle, is_made, made
from frontparts.systems import idle_all, is_solved, solved
from tests.tools import CLOCKS, Case, all_tables, bag, chance_of, deep, is_row, left_over, nothing
from tests.tools import odd_things, one, pairs, random_bag, summed


def random_systems(seed, many=10):
    """Systems of 1 to 4 rows of 1 to 6 bags, some with rows or bags that are sums of others, some of nothing."""
    chance = chance_of(seed)
    for clock in CLOCKS:
        yield [[nothing(clock)]]
        yield ([nothing(clock), one(clock)], (bag(clock, x=1), nothing(clock)))
        for turn in range(many):
            rows, bags = 1 + turn % 4, 1 + turn % 6
            system = [[random_bag(chance, clock, "xyz", 2, 2) for _ in range(bags)] for _ in range(rows)]
            yield system
            front = random_bag(chance, clock, "xy", 1, 2)
            yield (*system[:3], tuple(behind(front, part) for part in system[0]))
            back = random_bag(chance, clock, "xy", 1, 2)
            yield [[row[0], behind(row[0], back), *row[1:]][:6] for row in system]


def goals_of(system, told):
    return [Bag(row[0].clock, dict(summed(row, told))) for row in system]


def solves(system, goals, told):
    return all(summed(row, told) == goal.words for row, goal in zip(system, goals))


def is_system(thing):
    return (type(thing) in (list, tuple) and 1 <= len(thing) <= 4 and all(is_row(row, 6) for row in thing)
            and len({(len(row), row[0].clock) for row in thing}) == 1)


class Solved(Case):

    def test_what_has_a_solution_is_solved(self):
        chance = chance_of(81)
        for system in random_systems(82):
            clock = system[0][0].clock
            told = [random_bag(chance, clock, "xy", 2, 2) for _ in system[0]]
            goals = goals_of(system, told)
            for wanted in (goals, tuple(goals), [nothing(clock) for _ in system]):
                found = self.answers(solved, system, wanted)
                self.assertIs(type(found), tuple)
                self.assertEqual(len(found), len(system[0]))
                self.assertTrue(solves(system, wanted, found))
                self.assertIs(is_solved(system, wanted, found), True)

    def test_other_goals(self):
        chance = chance_of(83)
        there = lacking = 0
        for system in random_systems(84, 20):
            clock = system[0][0].clock
            goals = [random_bag(chance, clock, "xy", 1, 2) for _ in system]
            found = solved(system, goals)
            if found is None:
                lacking += 1
            else:
                there += 1
                self.assertTrue(solves(system, goals, found))
        self.assertGreater(there, 10)
        self.assertGreater(lacking, 10)

    def test_against_a_search_through_all_bags(self):
        x, y = bag(2, x=1), bag(2, y=1)
        bags = [Bag(2, table) for table in all_tables(2, "xy", 1)]
        # In each column the first words leave no sum shorter than what stands behind them.
        for system in ([[x, y], [y, x]], [[x, nothing(2)], [nothing(2), bag(2, y=1, one=1)]],
                       [[one(2), x], [one(2), y]], [[one(2)], [bag(2, x=1, one=1)]]):
            known = {tuple(goal.words for goal in goals_of(system, told))
                     for told in itertools.product(bags, repeat=len(system[0]))}
            for goals in itertools.product(bags, repeat=len(system)):
                found = solved(system, goals)
                self.assertEqual(found is not None, tuple(goal.words for goal in goals) in known)
                if found is not None:
                    self.assertTrue(solves(system, goals, found))

    def test_one_row_is_made(self):
        chance = chance_of(85)
        for clock in CLOCKS:
            for many in range(1, 7):
                row = [random_bag(chance, clock, "xy", 2, 2) for _ in range(many)]
                goal = random_bag(chance, clock, "xy", 2, 2)
                found = solved([row], [goal])
                self.assertEqual(found is None, made(row, goal) is None)
                if found is not None:
                    self.assertIs(is_made(row, goal, found), True)

    def test_by_hand(self):
        x, y = bag(3, x=1), bag(3, y=1)
        self.assertEqual(solved([[x, y], [y, x]], [bag(3, xz=1, y=2), bag(3, yz=1, x=2)]), (bag(3, z=1), bag(3, one=2)))
        self.assertIsNone(solved([[x, y], [x, y]], [x, y]))
        self.assertIsNone(solved([[x], [y]], [bag(3, xz=1), bag(3, yx=1)]))
        self.assertEqual(solved([[x], [y]], [bag(3, xz=1), bag(3, yz=1)]), (bag(3, z=1),))
        self.assertIsNone(solved([[nothing(3)]], [one(3)]))
        self.assertTrue(solves([[nothing(3)]], [nothing(3)], solved([[nothing(3)]], [nothing(3)])))


class Judging(Case):

    def test_each_change_is_seen(self):
        x, y = bag(5, x=1), bag(5, y=2)
        system = ((x, y, nothing(5)), [y, one(5), nothing(5)])
        right = (bag(5, z=1), bag(5, x=3), bag(5, y=4))
        goals = goals_of(system, right)
        self.assertIs(is_solved(system, goals, right), True)
        self.assertIs(is_solved(system, goals, (*right[:2], nothing(5))), True)
        for wrong in (list(right), right[:2], (*right, one(5)), (bag(5, z=2), *right[1:]), None, (), (None,) * 3,
                      (right[0], bag(5, x=4), right[2]), (right[0], right[1], bag(3, y=2)), (right,), right[0],
                      (right[0].words, right[1], right[2]), {0: right[0], 1: right[1], 2: right[2]}):
            self.assertIs(is_solved(system, goals, wrong), False)
        for place in range(2):
            other = list(goals)
            other[place] = together(other[place], one(5))
            self.assertIs(is_solved(system, other, right), False)

    def test_odd_things(self):
        self.assertEqual(self.judges_oddly(is_solved, [[one(2)], [bag(2, x=1)]], [one(2), bag(2, x=1)]), [(one(2),)])
        self.assertEqual(self.judges_oddly(is_solved, [[bag(2, x=1)]], [one(2)]), [])


class IdleAll(Case):

    def check(self, system):
        clock = system[0][0].clock
        found = self.answers(idle_all, system)
        self.assertIs(type(found), list)
        for told in found:
            self.assertIs(type(told), tuple)
            self.assertEqual(len(told), len(system[0]))
            self.assertTrue(solves(system, [nothing(clock) for _ in system], told))
        return self.leads_apart(found)

    def test_the_one_list(self):
        for system in random_systems(86):
            found = self.check(system)
            clock = system[0][0].clock
            self.assertEqual(idle_all(system[::-1]), idle_all(system))
            self.assertEqual(idle_all([*system[:3], system[0]]), idle_all(system[:3]))
            self.assertEqual(idle_all([[times(part, -1) for part in row] for row in system]), idle_all(system))
            for place, row in enumerate(system):
                # A tuple that is idle for all rows is idle for each.
                single = [tuple(part.words for part in told) for told in idle(row)]
                for told in found:
                    self.assertEqual(left_over(clock, single, told), tuple(() for _ in row), place)

    def test_each_idle_tuple_is_a_sum(self):
        tables = [pairs(2, table) for table in all_tables(2, "xy", 1)]
        x, y = bag(2, x=1), bag(2, y=1)
        for system in ([[x, x, y], [x, x, x]], [[x, y, x], [y, x, y]], [[nothing(2), x, bag(2, x=1, one=1)], [x, x, x]],
                       [[bag(2, xy=1), bag(2, xx=1), x], [nothing(2)] * 3]):
            found = self.check(system)
            many = 0
            for told in itertools.product(tables, repeat=3):
                bags = [Bag(2, dict(words)) for words in told]
                if all(summed(row, bags) == () for row in system):
                    many += 1
                    self.assertEqual(left_over(2, found, told), ((), (), ()))
            self.assertGreater(many, 1)

    def test_one_row_is_idle(self):
        chance = chance_of(87)
        for clock in CLOCKS:
            for many in range(1, 7):
                row = [random_bag(chance, clock, "xy", 2, 2) for _ in range(many)]
                self.assertEqual(idle_all([row]), idle(row))

    def test_by_hand(self):
        x, y = bag(3, x=1), bag(3, y=1)
        self.assertEqual(idle_all([[nothing(3), nothing(3)]] * 4), [(one(3), nothing(3)), (nothing(3), one(3))])
        self.assertEqual(idle_all([[x, y], [y, x]]), [])
        self.assertEqual(idle_all([[x, x], [y, y]]), [(one(3), bag(3, one=2))])
        self.assertEqual(idle_all(([x, x, bag(3, xy=1)], (y, y, nothing(3)))), [(one(3), bag(3, one=2), nothing(3))])
        self.assertEqual(idle_all([[one(3), x, y], [nothing(3), x, bag(3, xz=1)]]),
                         [(bag(3, xz=1, y=2), bag(3, z=2), one(3))])


class Refusing(Case):

    def test_no_system(self):
        self.refuses_all_but(is_system, NoSystem, idle_all)
        x, y = bag(2, x=1), bag(3, x=1)
        for wrong in ([], (), [[]], [[x]] * 5, [[x] * 7], [[x], [x, x]], [[x], [y]], [[x, y]], [[x], x], [[x], None],
                      {0: [x]}, [{0: x}], x, [x], [[x], [[x]]], [[x], "x"], [deep(list)], iter([[x]])):
            self.refuses(NoSystem, idle_all, wrong)
            self.refuses(NoSystem, solved, wrong, [x])
            self.refuses(NoSystem, is_solved, wrong, [x], (x,))

    def test_no_goals(self):
        x = bag(2, x=1)

        def fits(thing):
            return type(thing) in (list, tuple) and len(thing) == 1 and thing[0] in (nothing(2), one(2), x)
        self.refuses_all_but(fits, NoGoals, lambda thing: solved([[x]], thing))
        self.refuses_all_but(fits, NoGoals, lambda thing: is_solved([[x]], thing, (one(2),)))
        for wrong in ([], [x], [x] * 3, [x, bag(3, x=1)], [x, None], {0: x, 1: x}, x, None, [[x], [x]], deep(list)):
            self.refuses(NoGoals, solved, [[x], [x]], wrong)
            self.refuses(NoGoals, is_solved, [[x], [x]], wrong, None)

    def test_the_system_is_judged_first(self):
        for thing in odd_things():
            self.refuses(NoSystem, solved, [], thing)
            self.refuses(NoSystem, is_solved, [[one(2)], [one(3)]], thing, thing)
            self.refuses(NoGoals, is_solved, [[one(2)]], [], thing)


if __name__ == "__main__":
    unittest.main()
