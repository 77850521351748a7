"""Cuts of level bags: the words of such a bag are fronts and backs of fixed lengths (3.1)."""

from frontparts.bags import bag_of, length, number_at, plain, table_of
from frontparts.errors import NoNumber, NotLevel
from frontparts.kinds import is_from_to, is_word
from frontparts.tables import first_word, inverse, scaled


def cut(bag, number):
    """The pair of level bags, the first one plain and so many letters long, whose product is the bag, or None."""
    check_level(bag)
    check_number(bag, number)
    halves = halved(table_of(bag), number, bag.clock)
    if halves is None:
        return None
    return (bag_of(bag.clock, halves[0]), bag_of(bag.clock, halves[1]))


def crossing(bag, number):
    """A tuple of two fronts and two backs that shows that there is no cut, None if there is one."""
    check_level(bag)
    check_number(bag, number)
    return crossing_of(table_of(bag), number, bag.clock)


def is_crossing(bag, number, thing):
    """Whether a thing is a tuple of words that shows that there is no cut."""
    check_level(bag)
    check_number(bag, number)
    if not isinstance(thing, tuple) or len(thing) != 4 or not all([is_word(word) for word in thing]):
        return False
    one, other, near, far = thing
    if len(one) != number or len(other) != number:
        return False
    straight = number_at(bag, one + near) * number_at(bag, other + far)
    across = number_at(bag, one + far) * number_at(bag, other + near)
    return (straight - across) % bag.clock != 0


def level_way(bag):
    """The tuple of the plain level bags without a cut within whose product is the plain bag."""
    check_level(bag)
    found = []
    left = table_of(plain(bag))
    size = 1
    # Of two fronts of a level bag one is always a front of the other. At the length there is a cut, too.
    while size <= len(first_word(left)):
        halves = halved(left, size, bag.clock)
        if halves is None:
            size += 1
        else:
            found.append(bag_of(bag.clock, halves[0]))
            left = halves[1]
            size = 1
    return tuple(found)


def check_level(bag):
    """Refuses a bag that is nothing, or has words of unlike lengths."""
    if not bag.words or any([len(word) != length(bag) for word, _ in bag.words]):
        raise NotLevel()


def check_number(bag, number):
    """Refuses what is no number of letters within the bag."""
    if not is_from_to(number, 0, length(bag)):
        raise NoNumber()


def halved(table, size, clock):
    """The two tables of a cut of a level table, the first one plain, or None."""
    if crossing_of(table, size, clock) is not None:
        return None
    fronts, backs = lines_of(table, size)
    return scaled(fronts, inverse(table[first_word(table)], clock), clock), backs


def lines_of(table, size):
    """The fronts that stand before the back of the first word, and the backs that stand behind its front."""
    head = first_word(table)
    fronts = {word[:size]: number for word, number in table.items() if word[size:] == head[size:]}
    backs = {word[size:]: number for word, number in table.items() if word[:size] == head[:size]}
    return fronts, backs


def crossing_of(table, size, clock):
    """The tuple of two fronts and two backs whose numbers are not those of a product, or None.

    The numbers of a product are told by those of the words that share a half with the first word.
    """
    head = first_word(table)
    fronts, backs = lines_of(table, size)
    for word, number in table.items():
        across = fronts.get(word[:size], 0) * backs.get(word[size:], 0)
        if (table[head] * number - across) % clock != 0:
            return (head[:size], word[:size], head[size:], word[size:])
    if len(table) == len(fronts) * len(backs):
        return None
    lacking = [(start, end) for start in fronts for end in backs if start + end not in table]
    return (head[:size], lacking[0][0], head[size:], lacking[0][1])
