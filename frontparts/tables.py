"""Tables: plain dicts from words to numbers other than 0. All of the package reckons with them."""

INVERSES = {2: (0, 1), 3: (0, 1, 2), 5: (0, 1, 3, 2, 4), 7: (0, 1, 4, 5, 2, 3, 6)}


def inverse(number, clock):
    """The number with which a number other than 0 gives 1."""
    return INVERSES[clock][number % clock]


def rank_of(word):
    """The word that is ahead has the lesser rank."""
    return (-len(word), word)


def first_word(table):
    """The word that is ahead of all others of a table that has some."""
    return min(table, key=rank_of)


def tidied(table, clock):
    """The table with its numbers reckoned by the clock, without those that are 0."""
    return {word: number % clock for word, number in table.items() if number % clock}


def scaled(table, factor, clock):
    """The table with all numbers multiplied."""
    return tidied({word: number * factor for word, number in table.items()}, clock)


def added(one, other, factor, clock):
    """One table and, so many times, another one."""
    found = dict(one)
    for word, number in other.items():
        found[word] = found.get(word, 0) + factor * number
    return tidied(found, clock)


def multiplied(one, other, clock):
    """Each word of one with each word of the other one behind it."""
    found = {}
    for front, number in one.items():
        for back, amount in other.items():
            found[front + back] = found.get(front + back, 0) + number * amount
    return tidied(found, clock)
