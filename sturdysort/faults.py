"""Lots of few deeds, and what runs tell of the lot that failed."""

from itertools import combinations, permutations

from sturdysort.errors import BadTimes, BadTold
from sturdysort.lots import size_and_lot
from sturdysort.moves import behind, end_of, left_of
from sturdysort.values import check_lot, check_word_that_fails, is_from_to, is_row

MOST_THAT_FAIL = 3


def lots_by_end(n, word, most):
    """The dict that tells for rows the lots of at most so many deeds with which the turned row comes there."""
    check_few(n, word, most)
    return {row: tuple(lots) for row, lots in grouped_lots(n, word, most).items()}


def check_few(n, word, most):
    """Raises BadCards, BadWord, TooLong, or BadTimes for what is not a number of deeds that few are."""
    check_word_that_fails(n, word)
    if not is_from_to(most, 0, MOST_THAT_FAIL):
        raise BadTimes()


def grouped_lots(n, word, most):
    """The lots by their ends as lists, each in order; rows come in the order of their first lots."""
    found = {}
    for many in range(most + 1):
        for lot in combinations(range(len(word)), many):
            row = end_of(n, left_of(word, lot))
            found.setdefault(row, []).append(lot)
    return found


def fitting(n, word, most, told):
    """The tuple of the lots of at most so many deeds with which each first row of the pairs comes to the second one."""
    check_few(n, word, most)
    if not isinstance(told, tuple) or not all([is_pair_of_rows(pair, n) for pair in told]):
        raise BadTold()
    found = []
    for lots in grouped_lots(n, word, most).values():
        # Lots with the same end do the same to every row, so one of them tells of all.
        if fits(left_of(word, lots[0]), told):
            found.extend(lots)
    return tuple(sorted(found, key=size_and_lot))


def is_pair_of_rows(value, n):
    """Whether the value is a pair of rows of n cards."""
    return isinstance(value, tuple) and len(value) == 2 and is_row(value[0], n) and is_row(value[1], n)


def fits(word, told):
    """Whether the word leads each first row of the pairs to the second one."""
    for row, other in told:
        if behind(row, word) != other:
            return False
    return True


def parting_row(n, word, lot, other):
    """The first row that ends otherwise with the two lots failing; None if there is none."""
    check_word_that_fails(n, word)
    check_lot(word, lot)
    check_lot(word, other)
    left, other_left = left_of(word, lot), left_of(word, other)
    for row in permutations(range(n)):
        if behind(row, left) != behind(row, other_left):
            return row
    return None
