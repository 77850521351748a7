"""Which bags carry a bag to another one (6.2)."""

from heapq import heapify, heappop, heappush

from frontparts.bags import bag_of, length, plain, table_of
from frontparts.bases import basis_of, listed
from frontparts.errors import IsNumber, TooLong
from frontparts.rows import check_two
from frontparts.tables import first_word, multiplied, rank_of, tidied

MOST_LETTERS = 6
# With this sign behind each of them no word begins with another one, so that numbers alone are reckoned with.
CLOSING = "."


def carriers(one, other):
    """The list of plain bags of which just the sums, times numbers, are shorter than one and carry other to it."""
    check_two(one, other)
    if length(one) == 0 or length(other) == 0:
        raise IsNumber()
    check_short(one, other)
    goal = table_of(plain(one))
    carried = table_of(plain(other))
    head = first_word(goal)
    columns = [column_of(head[:size], goal, carried, one.clock) for size in range(len(head))]
    # Where nothing is left at the first place, the second one tells what carries.
    leads = basis_of(columns, one.clock)[1]
    return [bag_of(one.clock, {word[:-1]: number for word, number in column[1].items()}) for column in listed(leads)]


def check_short(one, other):
    """Refuses bags for which carriers are not looked for."""
    if max(length(one), length(other)) > MOST_LETTERS:
        raise TooLong(MOST_LETTERS)


def column_of(start, goal, carried, clock):
    """The column of what is left of a word with the carried table behind, and of the words that were put to it.

    Taken off are the goal with words behind, and FREE words with the carried table behind: those with fewer
    letters than the goal, but for the beginnings of the goal's first word. All these have unlike first words,
    so that just one thing can be left. What carries is so told by the few words that are not free:
    a sum of their columns carries just if nothing is left in it.
    """
    head = first_word(goal)
    tail = first_word(carried)
    left = multiplied({start: 1}, carried, clock)
    carrier = {start: 1}
    queue = [rank_of(word) for word in left]
    heapify(queue)
    while queue:
        _, word = heappop(queue)
        front = free_front(word, head, tail)
        taken = {}
        if word.startswith(head):
            taken = multiplied(goal, {word[len(head):]: left[word]}, clock)
        elif front is not None:
            taken = multiplied({front: left[word]}, carried, clock)
            carrier[front] = -left[word]
        # All that is put to the words stands behind this one, so that each word is taken off once.
        for piece, number in taken.items():
            if piece not in left:
                heappush(queue, rank_of(piece))
            left[piece] = (left.get(piece, 0) - number) % clock
    return [closed(left, clock), closed(carrier, clock)]


def free_front(word, head, tail):
    """The free word behind which the tail stands in a word, None if there is none."""
    # All words that come up are shorter than head and tail together.
    front = word[:-len(tail)]
    return front if word.endswith(tail) and not head.startswith(front) else None


def closed(table, clock):
    """The table with the closing sign behind each word."""
    return tidied({word + CLOSING: number for word, number in table.items()}, clock)
