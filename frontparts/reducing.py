"""Taking sums off: the one reduction with which bags, rows of bags and systems are divided.

A column is a list of tables, one for each place. It leads at the least place at which it has words,
by the first word there. A basis is a list of dicts, one for each place, from leading words to columns
that lead there, with the number 1; no leading word begins with another one at the same place.
"""

from heapq import heapify, heappop, heappush

from frontparts.tables import first_word, inverse, rank_of, scaled, tidied


def reduced(column, basis, clock):
    """The column less the sum of the basis that leaves no word that begins with a leading one."""
    left = [dict(table) for table in column]
    for place in range(len(left)):
        if basis[place]:
            reduce_at(left, place, basis[place], clock)
    return [tidied(table, clock) for table in left]


def reduce_at(left, place, leads, clock):
    """Takes sums off until no word at the place begins with a leading word."""
    table = left[place]
    queue = [rank_of(word) for word in table if start_of(word, leads) is not None]
    heapify(queue)
    while queue:
        _, word = heappop(queue)
        if table[word]:
            start = start_of(word, leads)
            back = word[len(start):]
            # All words that come up stand behind this one, so each word is taken off once.
            fresh = [piece + back for piece in leads[start][place] if piece + back not in table]
            take_off(left, leads[start], table[word], back, clock)
            for found in fresh:
                if start_of(found, leads) is not None:
                    heappush(queue, rank_of(found))


def start_of(word, leads):
    """The leading word with which a word begins, or None."""
    for size in range(len(word) + 1):
        if word[:size] in leads:
            return word[:size]
    return None


def take_off(left, column, number, back, clock):
    """Takes the column, with a word behind it and so many times, off what is left."""
    for table, pieces in zip(left, column):
        for piece, amount in pieces.items():
            table[piece + back] = (table.get(piece + back, 0) - number * amount) % clock


def divided(table, front, clock):
    """What stands behind the front, and what is left: no word of it begins with the front's first one."""
    head = first_word(front)
    turn = inverse(front[head], clock)
    column = [scaled(front, turn, clock), {"": clock - turn}]
    left, quotient = reduced([table, {}], [{head: column}, {}], clock)
    return quotient, left
