"""The search for all fronts of a table, from the longest words down to the shortest.

A table of n letters is a product of a front of d letters and a back of n - d only if its longest words
are cut there, which gives the longest words of both. Each further level of the table then gives an equation
for the next levels of front and back. It has at most one solution, or, for some levels, one for each number.
"""

from frontparts.cuts import halved
from frontparts.shadows import shadow_of
from frontparts.tables import added, first_word, inverse, multiplied, scaled, tidied

# With so few free numbers to try a shadow costs more than it spares.
FEW_FREE = 2


class Search:
    """The search for the fronts of one size. The levels of tables are counted from the longest words down."""

    def __init__(self, levels, halves, clock):
        self.levels = levels
        self.clock = clock
        self.front, self.back = halves
        self.head = first_word(self.front)
        self.tail = first_word(self.back)
        steps = range(1, min(len(self.head), len(self.tail)) + 1)
        self.turns = {step: self.turn(step) for step in steps}
        self.shadow = None
        if len([step for step in steps if self.turns[step][0] and not self.turns[step][2]]) > FEW_FREE:
            self.shadow = shadow_of(levels, self.front, clock)

    def shares(self, level):
        """The triple (a, b, left) such that a level is front b + a back + left, front and back being the longest words.

        Of all that is front b + a back nothing is left, but for the part of one word in a: see turn.
        """
        size = len(self.head)
        turn = inverse(self.front[self.head], self.clock)
        backs = {word[size:]: number * turn for word, number in level.items() if word.startswith(self.head)}
        left = added(level, multiplied(self.front, backs, self.clock), -1, self.clock)
        size = len(self.tail)
        turn = inverse(self.back[self.tail], self.clock)
        fronts = {word[:-size]: number * turn for word, number in left.items() if word.endswith(self.tail)}
        left = added(left, multiplied(fronts, self.back, self.clock), -1, self.clock)
        return tidied(fronts, self.clock), tidied(backs, self.clock), left

    def turn(self, step):
        """The triple (a, b, left), left being front b + a back, of which each multiple may be put to shares.

        It is that of the one word with which the head begins: only behind it words of the back may begin
        as the head goes on, so that they are shared out as if they stood behind the front.
        """
        start = self.head[:len(self.head) - step]
        fronts, backs, left = self.shares({start + word: number for word, number in self.back.items()})
        return added({start: 1}, fronts, -1, self.clock), scaled(backs, -1, self.clock), left

    def solutions(self, level, step):
        """All pairs of the next levels of front and back that give a level."""
        fronts, backs, left = self.shares(level)
        if step not in self.turns:
            return [] if left else [(fronts, backs)]
        more_fronts, more_backs, more = self.turns[step]
        numbers = list(range(self.clock)) if more_fronts else [0]
        if more:
            word = first_word(more)
            numbers = [left.get(word, 0) * inverse(more[word], self.clock) % self.clock]
            left = added(left, more, -numbers[0], self.clock)
        if left:
            return []
        return [(added(fronts, more_fronts, number, self.clock), added(backs, more_backs, number, self.clock))
                for number in numbers]

    def fronts(self):
        """All fronts, as tables."""
        states = [((self.front,), (self.back,), (1,))]
        for step in range(1, len(self.levels)):
            states = [later for state in states for later in self.after(state, step)]
        return [joined(fronts) for fronts, _, _ in states]

    def after(self, state, step):
        """The states to which a step leads: the levels of front and of back so far, and the front's shadow."""
        fronts, backs, told = state
        level = self.levels[step]
        for place in range(1, step):
            known = multiplied(fronts[place], backs[step - place], self.clock)
            level = added(level, known, -1, self.clock)
        found = []
        for front, back in self.solutions(level, step):
            longer = told
            if self.shadow is not None and step <= len(self.head):
                number = self.shadow.of(front) * inverse(self.shadow.of(self.front), self.clock)
                longer = told + (number % self.clock,)
            if self.shadow is None or self.shadow.begins(longer):
                found.append((fronts + (front,), backs + (back,), longer))
        return found


def joined(levels):
    """One table of all levels."""
    found = {}
    for level in levels:
        found.update(level)
    return found


def levels_of(table):
    """The words of a table by their lengths, the longest ones first."""
    size = len(first_word(table))
    levels = [{} for _ in range(size + 1)]
    for word, number in table.items():
        levels[size - len(word)][word] = number
    return levels


def fronts_of(table, clock):
    """All plain fronts of a plain table, as tables, ONE and itself among them (twice for a number alone)."""
    levels = levels_of(table)
    found = [{"": 1}, table]
    for size in range(1, len(levels) - 1):
        halves = halved(levels[0], size, clock)
        if halves is not None:
            search = Search(levels, halves, clock)
            found.extend(search.fronts())
    return found
