"""The bench: a row of bags that is changed step by step, and back (11.1)."""

from frontparts.bags import all_behind, bag_of, behind, is_bag, is_short_word, table_of
from frontparts.errors import Full, NoBag, NoNumber, NoPlace, NothingDone, NoWord
from frontparts.fronts import front_parts
from frontparts.kinds import check_clock, is_from_to
from frontparts.rows import rest_behind
from frontparts.tables import added

MOST_BAGS = 12


class Bench:
    """A row of at most 12 bags of one clock, and all rows that were there before."""

    def __init__(self, clock):
        check_clock(clock)
        self._clock = clock
        # A tuple that is never changed, so that the rows before can be kept as they are.
        self._row = ()
        self._past = []

    def lay(self, thing):
        """Lays a bag on, behind the others."""
        if not is_bag(thing, self._clock):
            raise NoBag()
        self._check_room()
        self._become(self._row + (thing,))

    def take(self, place):
        """Takes the bag away from a place."""
        self._check_place(place, 0)
        self._become(self._row[:place] + self._row[place + 1:])

    def put(self, place, word, number):
        """Adds a number to that of a word in the bag at a place."""
        self._check_place(place, 0)
        if not is_short_word(word):
            raise NoWord()
        if not is_from_to(number, 0, self._clock - 1):
            raise NoNumber()
        table = added(table_of(self._row[place]), {word: number}, 1, self._clock)
        self._become(self._row[:place] + (bag_of(self._clock, table),) + self._row[place + 1:])

    def fuse(self, place):
        """Makes one bag of the two at a place and behind it: their product."""
        self._check_place(place, 1)
        bag = behind(self._row[place], self._row[place + 1])
        self._become(self._row[:place] + (bag,) + self._row[place + 2:])

    def cleave(self, place, number):
        """Makes two bags of the one at a place: a front part, told by its number, and what stands behind it."""
        self._check_place(place, 0)
        bag = self._row[place]
        parts = front_parts(bag)
        if not is_from_to(number, 0, len(parts) - 1):
            raise NoNumber()
        self._check_room()
        pair = (parts[number], rest_behind(parts[number], bag))
        self._become(self._row[:place] + pair + self._row[place + 1:])

    def bags(self):
        """The list of the bags."""
        return list(self._row)

    def whole(self):
        """The product of all bags, in order."""
        return all_behind((bag_of(self._clock, {"": 1}),) + self._row)

    def back(self):
        """Takes back the last change that is not taken back."""
        if not self._past:
            raise NothingDone()
        self._row = self._past.pop()

    def depth(self):
        """How many changes can be taken back."""
        return len(self._past)

    def copy(self):
        """Another bench that goes on apart."""
        other = Bench(self._clock)
        other._row = self._row
        other._past = list(self._past)
        return other

    def trying(self, action):
        """Calls a function with the bench, puts everything back, and tells what the function returned."""
        row = self._row
        past = list(self._past)
        try:
            return action(self)
        finally:
            self._row = row
            self._past = past

    def _become(self, row):
        """Changes the row, so that it can be taken back."""
        self._past.append(self._row)
        self._row = row

    def _check_place(self, place, more):
        """Refuses what is no place of a bag with so many more bags behind it."""
        if not is_from_to(place, 0, len(self._row) - 1 - more):
            raise NoPlace()

    def _check_room(self):
        """Refuses one more bag on a full bench."""
        if len(self._row) >= MOST_BAGS:
            raise Full()
