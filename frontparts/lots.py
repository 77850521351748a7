"""The web of a bag: its front parts, told by lots of knots. All of points 4 and 5 goes over these.

A lot is one integer here: the knot with number k puts 2 ** k to it.
"""

from frontparts.bags import table_of
from frontparts.fronts import front_parts
from frontparts.reducing import divided
from frontparts.rows import rest_behind


class Web:
    """All front parts of a bag, ascending, and their lots. It is made with the errors of front_parts."""

    def __init__(self, bag):
        self.clock = bag.clock
        self.parts = front_parts(bag)
        self.lots = []
        self.knots = []
        # For each knot, the lot of the knots before it.
        self.before = []
        self.part_at = {}
        self.steps = {}
        for part in self.parts:
            self.enter(part)

    def enter(self, part):
        """Finds the lot of the next front part, and whether it is a knot.

        A part that is no knot has, by the main fact, a lot that no part before it has: that of its knots,
        all of which are shorter. A knot has, besides itself, the lot of the one greatest front part within it.
        """
        lot = 0
        for number, knot in enumerate(self.knots):
            if within(self.before[number], lot) and divides(knot, part):
                lot += 1 << number
        if lot in self.part_at:
            self.before.append(lot)
            lot += 1 << len(self.knots)
            self.knots.append(part)
        self.lots.append(lot)
        self.part_at[lot] = part

    def is_before(self, knot, other):
        """Whether the one knot is before the other one."""
        return has(self.before[other], knot)

    def pairs(self):
        """The ascending list of the pairs of knots of which the first one is before the second one."""
        numbers = range(len(self.knots))
        return [(knot, other) for knot in numbers for other in numbers if self.is_before(knot, other)]

    def nexts(self, lot):
        """The ascending list of the knots that can be put to a lot."""
        return [knot for knot, before in enumerate(self.before) if not has(lot, knot) and within(before, lot)]

    def step(self, lot, knot):
        """What stands behind the front part of a lot in that of the lot and a knot that can be put to it."""
        if (lot, knot) not in self.steps:
            self.steps[(lot, knot)] = rest_behind(self.part_at[lot], self.part_at[lot + (1 << knot)])
        return self.steps[(lot, knot)]

    def numbers(self, lot):
        """The ascending tuple of the knots of a lot."""
        return tuple([knot for knot in range(len(self.knots)) if has(lot, knot)])


def has(lot, knot):
    """Whether a knot is in a lot."""
    return (lot >> knot) & 1 == 1


def within(lot, other):
    """Whether all knots of one lot are in the other one."""
    return lot & other == lot


def divides(front, bag):
    """Whether a bag of the same clock is the front with something behind it."""
    _, left = divided(table_of(bag), table_of(front), bag.clock)
    return not left
