"""The desk: bags under names, told and asked for by lines (point 13)."""

from frontparts.answers import answer
from frontparts.bags import behind, together
from frontparts.errors import NoName, NothingDone
from frontparts.kinds import check_clock
from frontparts.lines import read_line
from frontparts.reading import read_bag


class Desk:
    """Bags of one clock under names, and what stood before under the names that were changed."""

    def __init__(self, clock):
        check_clock(clock)
        self._clock = clock
        self._kept = {}
        # Pairs of a name and the bag that stood there, None if there was none.
        self._past = []

    def tell(self, line):
        """Does what a line says, and tells its answer."""
        words = read_line(line)
        if words[0] == "names":
            return " ".join(sorted(self._kept)) if self._kept else "none"
        if words[0] == "undo":
            self._undo()
        elif words[0] == "bag":
            self._keep(words[1], read_bag(self._clock, words[2]))
        elif words[0] == "drop":
            self._bag(words[1])
            self._keep(words[1], None)
        elif words[0] == "sum":
            self._keep(words[3], together(self._bag(words[1]), self._bag(words[2])))
        elif words[0] == "product":
            self._keep(words[3], behind(self._bag(words[1]), self._bag(words[2])))
        else:
            # A word of a line is a number just if it is no name.
            return answer(words[0], [int(word) if word.isdigit() else self._bag(word) for word in words[1:]])
        return "ok"

    def undoable(self):
        """How many lines can be taken back."""
        return len(self._past)

    def _bag(self, name):
        """The bag under a name."""
        if name not in self._kept:
            raise NoName(name)
        return self._kept[name]

    def _keep(self, name, bag):
        """Keeps a bag under a name, or none, so that it can be taken back."""
        self._past.append((name, self._kept.get(name)))
        self._set(name, bag)

    def _set(self, name, bag):
        """Puts a bag under a name, or takes away what is there."""
        if bag is None:
            del self._kept[name]
        else:
            self._kept[name] = bag

    def _undo(self):
        """Takes back the last line that changed something."""
        if not self._past:
            raise NothingDone()
        name, bag = self._past.pop()
        self._set(name, bag)
