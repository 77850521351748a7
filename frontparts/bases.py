"""The one basis of columns: the sums of columns, told by as few words as can be. Read reducing.py first."""

from frontparts.reducing import reduced
from frontparts.tables import first_word, inverse, rank_of, scaled


def basis_of(columns, clock):
    """The basis with just the sums of the columns, no word of which begins with the leading one of another."""
    basis = [{} for _ in columns[0]]
    waiting = list(columns)
    while waiting:
        column = reduced(waiting.pop(), basis, clock)
        place = leading_place(column)
        if place is not None:
            word = first_word(column[place])
            waiting.extend(removed(basis[place], word))
            turn = inverse(column[place][word], clock)
            basis[place][word] = [scaled(table, turn, clock) for table in column]
    return [{word: settled(leads[word], word, basis, clock) for word in leads} for leads in basis]


def leading_place(column):
    """The least place at which a column has words, None if it has none."""
    for place, table in enumerate(column):
        if table:
            return place
    return None


def removed(leads, start):
    """Takes away the columns whose leading words begin with a word, and returns them."""
    words = [word for word in leads if word.startswith(start)]
    return [leads.pop(word) for word in words]


def settled(column, head, basis, clock):
    """A column of the basis, led by the word head, with all that is behind this word reduced."""
    place = leading_place(column)
    tail = [dict(table) for table in column]
    del tail[place][head]
    found = reduced(tail, basis, clock)
    found[place][head] = 1
    return found


def listed(leads):
    """The columns that lead at one place, their leading words each ahead of the next one."""
    return [leads[word] for word in sorted(leads, key=rank_of)]
