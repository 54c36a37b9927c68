"""Rows of cards: runs, pairs out of order, and which row can come of which."""

from itertools import permutations

from sturdysort.errors import NoWay
from sturdysort.moves import behind, counts_ahead, is_as_sorted, left_of, pairs_out, sorted_row, steps_to, swapped
from sturdysort.moves import turned_row
from sturdysort.values import check_cards, check_lot, check_row, check_rows, check_word


def turned(n):
    """The turned row of n cards."""
    check_cards(n)
    return turned_row(n)


def in_order(n):
    """The sorted row of n cards."""
    check_cards(n)
    return sorted_row(n)


def run(row, word, lot):
    """The row behind the word, the lot failing."""
    check_row(row)
    check_word(len(row), word)
    check_lot(word, lot)
    return behind(row, left_of(word, lot))


def out_pairs(row):
    """The ascending tuple of the pairs (greater, lesser) out of order."""
    check_row(row)
    return tuple(pairs_out(row))


def can_come(row, other):
    """Whether some word leads the row to the other one."""
    check_rows(row, other)
    pairs = pairs_out(row)
    return all([pair in pairs for pair in pairs_out(other)])


def way(row, other):
    """Of the shortest words that lead the row to the other one the least one."""
    if not can_come(row, other):
        raise NoWay()
    word = []
    while row != other:
        deed = steps_to(row, other)[0]
        word.append(deed)
        row = swapped(row, deed)
    return tuple(word)


def no_less_sorted(row, other):
    """Whether the row is no less sorted than the other one."""
    check_rows(row, other)
    return is_as_sorted(row, other)


def stretch(row, other):
    """The ascending tuple of the rows no less sorted than the row and no more than the other one."""
    check_rows(row, other)
    least = counts_ahead(row)
    most = counts_ahead(other)
    return tuple([one for one in permutations(range(len(row))) if is_between(counts_ahead(one), least, most)])


def is_between(counts, least, most):
    """Whether each count is from its least to its most one."""
    return all([low <= count <= high for low, count, high in zip(least, counts, most)])
