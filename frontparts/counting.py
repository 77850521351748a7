"""All plain bags of a length, counted by their webs, and claims about them (point 14)."""

from frontparts.bags import bag_of, in_order
from frontparts.errors import NoAlphabet, NoNumber, TooMany
from frontparts.fronts import is_unsplittable
from frontparts.kinds import check_clock, is_from_to
from frontparts.lots import Web

ALPHABETS = ("x", "xy")
MOST_LETTERS = 6
MOST_BAGS = 1500


def census(clock, letters, length):
    """The dict from webs, as pairs of the number of knots and the befores, to the numbers of bags that have them."""
    check_census(clock, letters, length)
    found = {}
    for bag in plain_bags(clock, letters, length):
        web = Web(bag)
        told = (len(web.knots), tuple(web.pairs()))
        found[told] = found.get(told, 0) + 1
    return found


def many_unsplittable(clock, letters, length):
    """The number of the unsplittable ones among all plain bags of a length."""
    check_census(clock, letters, length)
    return len([bag for bag in plain_bags(clock, letters, length) if is_unsplittable(bag)])


def refuted(claim, clock, letters, length):
    """The first bag, up to this length, of which a claim does not tell whether it is unsplittable, or None."""
    check_census(clock, letters, length)
    for size in range(length + 1):
        for bag in plain_bags(clock, letters, size):
            told = claim(bag)
            if not isinstance(told, bool) or told != is_unsplittable(bag):
                return bag
    return None


def check_census(clock, letters, length):
    """Refuses what is no clock, no alphabet, no number of letters, and too many bags."""
    check_clock(clock)
    if letters not in ALPHABETS:
        raise NoAlphabet()
    if not is_from_to(length, 1, MOST_LETTERS):
        raise NoNumber()
    if many_plain(clock, letters, length) > MOST_BAGS:
        raise TooMany(MOST_BAGS)


def words_of(letters, length):
    """All words of at most so many letters, each ahead of the next one."""
    level = [""]
    found = [""]
    for _ in range(length):
        level = [word + letter for word in level for letter in letters]
        found = level + found
    return found


def many_plain(clock, letters, length):
    """The number of all plain bags of this length."""
    found = 0
    behind = 1
    for word in reversed(words_of(letters, length)):
        # The first word has the number 1, each word behind it any number.
        if len(word) == length:
            found += behind
        behind *= clock
    return found


def plain_bags(clock, letters, length):
    """The ascending list of all plain bags of this length."""
    words = words_of(letters, length)
    found = []
    for place, word in enumerate(words):
        if len(word) == length:
            tables = [{word: 1}]
            for later in words[place + 1:]:
                tables = [{**table, later: number} for table in tables for number in range(clock)]
            found.extend([bag_of(clock, table) for table in tables])
    return in_order(found)
