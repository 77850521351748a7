"""Words, bags, and how bags are laid together and put behind one another (part 1 of the document)."""

from frontparts.errors import BadBag, IsNothing, NoBags, NoNumber, NoRow, NoWord, UnlikeClocks
from frontparts.kinds import LETTERS, is_clock, is_from_to, is_integer, is_word
from frontparts.tables import added, inverse, multiplied, rank_of, scaled, tidied

MOST_WORDS = 300
MOST_LETTERS = 12
MOST_POWER = 12


class Bag:
    """A finite lot of words, each with a number of a clock. It never changes."""

    def __init__(self, clock, words):
        if not is_clock(clock):
            raise BadBag("clock")
        if not are_words(clock, words):
            raise BadBag("words")
        self.clock = clock
        self.words = pairs_of(words)

    def __eq__(self, other):
        return isinstance(other, Bag) and self.clock == other.clock and self.words == other.words


def are_words(clock, thing):
    """Whether a thing is what a caller may make a bag of."""
    if not isinstance(thing, dict) or len(thing) > MOST_WORDS:
        return False
    return all([is_short_word(word) and is_from_to(thing[word], 1, clock - 1) for word in thing])


def is_short_word(thing):
    """Whether a thing is a word that a caller may put into a bag."""
    return is_word(thing) and len(thing) <= MOST_LETTERS


def pairs_of(table):
    """The words of a table with their numbers, each ahead of the next one."""
    return tuple([(word, table[word]) for word in sorted(table, key=rank_of)])


def bag_of(clock, table):
    """The bag of a table, of any size: the bounds of words hold for callers alone."""
    bag = Bag(clock, {})
    bag.words = pairs_of(tidied(table, clock))
    return bag


def table_of(bag):
    """A new table of the words of a bag."""
    return dict(bag.words)


def is_bag(thing, clock):
    """Whether a thing is a bag of this clock."""
    return isinstance(thing, Bag) and thing.clock == clock


def has_only(bag, letters):
    """Whether a bag has no other letters than these."""
    return all([word.strip(letters) == "" for word, _ in bag.words])


def is_plain(bag):
    """Whether the first word of a bag has the number 1."""
    return len(bag.words) > 0 and bag.words[0][1] == 1


def are_bags(thing):
    """Whether a thing is a list or tuple of one bag or more, all of one clock."""
    if not isinstance(thing, (list, tuple)) or len(thing) == 0 or not isinstance(thing[0], Bag):
        return False
    return all([is_bag(bag, thing[0].clock) for bag in thing])


def check_clocks(one, other):
    """Refuses two bags of unlike clocks."""
    if one.clock != other.clock:
        raise UnlikeClocks()


def check_something(bag):
    """Refuses the bag without words."""
    if not bag.words:
        raise IsNothing()


def check_bags(bags):
    """Refuses what is no list or tuple of bags of one clock."""
    if not are_bags(bags):
        raise NoRow()


def together(one, other):
    """Both bags laid together: numbers of like words are added."""
    check_clocks(one, other)
    return bag_of(one.clock, added(table_of(one), table_of(other), 1, one.clock))


def less(one, other):
    """One bag with the numbers of the other one taken off."""
    check_clocks(one, other)
    return bag_of(one.clock, added(table_of(one), table_of(other), -1, one.clock))


def behind(one, other):
    """The other bag behind the one: each word behind each word."""
    check_clocks(one, other)
    return bag_of(one.clock, multiplied(table_of(one), table_of(other), one.clock))


def times(bag, number):
    """The bag with all its numbers multiplied by an integer."""
    if not is_integer(number):
        raise NoNumber()
    return bag_of(bag.clock, scaled(table_of(bag), number, bag.clock))


def power(bag, number):
    """So many of the bag behind one another."""
    if not is_from_to(number, 0, MOST_POWER):
        raise NoNumber()
    table = {"": 1}
    for _ in range(number):
        table = multiplied(table, table_of(bag), bag.clock)
    return bag_of(bag.clock, table)


def number_at(bag, word):
    """The number of a word in the bag, 0 if it is not there."""
    if not is_word(word):
        raise NoWord()
    return table_of(bag).get(word, 0)


def mirrored(bag):
    """The bag with each word told backward."""
    return bag_of(bag.clock, {word[::-1]: number for word, number in bag.words})


def replaced(bag, bags):
    """The bag with bags in the place of its letters."""
    if not are_replacements(bag, bags):
        raise NoBags()
    tables = {letter: table_of(bags[letter]) for letter in bags}
    # What stands behind a common beginning of words is put together once for all of them.
    behinds = {word: {"": number} for word, number in bag.words}
    for size in range(length(bag), 0, -1):
        starts = [word for word in behinds if len(word) == size]
        for word in starts:
            more = multiplied(tables[word[-1]], behinds[word], bag.clock)
            behinds[word[:-1]] = added(behinds.get(word[:-1], {}), more, 1, bag.clock)
            del behinds[word]
    return bag_of(bag.clock, behinds.get("", {}))


def are_replacements(bag, thing):
    """Whether a thing is a dict from letters, all those of the bag among them, to bags of its clock."""
    if not isinstance(thing, dict):
        return False
    if not all([is_word(key) and len(key) == 1 and is_bag(thing[key], bag.clock) for key in thing]):
        return False
    return all([letter in thing for letter in LETTERS if any([letter in word for word, _ in bag.words])])


def length(bag):
    """The number of letters of the longest words, -1 for nothing."""
    if not bag.words:
        return -1
    return len(bag.words[0][0])


def first(bag):
    """The word that is ahead of all others."""
    check_something(bag)
    return bag.words[0][0]


def top(bag):
    """The bag of all longest words."""
    check_something(bag)
    return level_of(bag, length(bag))


def plain(bag):
    """The bag times the number that gives its first word the number 1."""
    check_something(bag)
    return times(bag, inverse(bag.words[0][1], bag.clock))


def level_of(bag, number):
    """The bag of the words with so many letters."""
    if not is_integer(number) or number < 0:
        raise NoNumber()
    return bag_of(bag.clock, {word: amount for word, amount in bag.words if len(word) == number})


def all_together(bags):
    """All bags laid together."""
    check_bags(bags)
    table = {}
    for bag in bags:
        table = added(table, table_of(bag), 1, bag.clock)
    return bag_of(bags[0].clock, table)


def all_behind(bags):
    """All bags behind one another, in order."""
    check_bags(bags)
    table = {"": 1}
    for bag in bags:
        table = multiplied(table, table_of(bag), bag.clock)
    return bag_of(bags[0].clock, table)


def in_order(bags):
    """The ascending list of the bags, each once."""
    check_bags(bags)
    found = {bag.words: bag for bag in bags}
    return sorted(list(found.values()), key=place_of)


def place_of(bag):
    """What bags of one clock are ordered by: their length, then their words."""
    return (length(bag), bag.words)
