"""Bubble words, whose deeds stand for diagonals of a polygon, and cuttings of that polygon."""

from math import comb

from sturdysort.choices import is_greatest
from sturdysort.errors import BadCards, BadPairs, BadTimes, NoDiagonal, NotGreatest
from sturdysort.moves import sorted_row
from sturdysort.strings import exchanged, partners_of
from sturdysort.values import MOST_CARDS, check_cards, check_lot, check_place, is_from_to, is_integer

MOST_TIMES = 3


def bubble(n, k):
    """The word of k whole rounds of deeds, then of ever shorter ones."""
    check_cards(n)
    check_times(k, 0)
    return bubble_word(n, k)


def check_times(k, least):
    """Raises BadTimes if the value is not a number of whole rounds from the least one on."""
    if not is_from_to(k, least, MOST_TIMES):
        raise BadTimes()


def check_polygon(n, k):
    """Raises BadCards or BadTimes if no deeds of the bubble word stand for diagonals."""
    if not is_from_to(n, 2, MOST_CARDS):
        raise BadCards()
    check_times(k, 1)


def round_lengths(n, k):
    """The list of the lengths of the bubble word's rounds."""
    return [n - 1] * k + list(range(n - 1, 0, -1))


def bubble_word(n, k):
    """The bubble word, for values that are checked already."""
    return tuple([deed for length in round_lengths(n, k) for deed in range(length)])


def diagonals(n, k):
    """The list of the diagonals for which the bubble word's deeds stand; it is ascending."""
    return [(t, t + k + 1 + j) for t, length in enumerate(round_lengths(n, k)) for j in range(length)]


def diagonal(n, k, place):
    """The diagonal for which the deed at the place stands."""
    check_polygon(n, k)
    known = diagonals(n, k)
    check_place(place, len(known) - 1)
    return known[place]


def place_of(n, k, pair):
    """The place of the deed that stands for the diagonal."""
    check_polygon(n, k)
    known = diagonals(n, k)
    if not is_one_of(pair, known):
        raise NoDiagonal()
    return known.index(pair)


def is_one_of(pair, known):
    """Whether any value is one of the known diagonals."""
    # True and False equal numbers, but are no corners.
    return pair in known and all([is_integer(corner) for corner in pair])


def check_pairs(n, k, pairs):
    """Raises BadCards, BadTimes, or BadPairs for what is not an ascending tuple of unlike diagonals."""
    check_polygon(n, k)
    known = diagonals(n, k)
    if not isinstance(pairs, tuple) or not all([is_one_of(pair, known) for pair in pairs]):
        raise BadPairs()
    if not all([pair < later for pair, later in zip(pairs, pairs[1:])]):
        raise BadPairs()


def is_cutting(n, k, pairs):
    """Whether no k + 1 of the diagonals cross one another two by two."""
    check_pairs(n, k, pairs)
    crossing = [()]
    for _ in range(k + 1):
        crossing = [(*some, pair) for some in crossing for pair in pairs if crosses_all(pair, some)]
    return not crossing


def crosses_all(pair, some):
    """Whether a diagonal crosses all of some ones, and is behind them where diagonals ascend."""
    return all([one[0] < pair[0] < one[1] < pair[1] for one in some])


def lot_of(n, k, pairs):
    """The lot of the deeds that stand for the diagonals."""
    check_pairs(n, k, pairs)
    return places_for(n, k, pairs)


def places_for(n, k, pairs):
    """The tuple of the places whose deeds stand for the diagonals, for values that are checked already."""
    known = diagonals(n, k)
    return tuple([known.index(pair) for pair in pairs])


def pairs_of(n, k, lot):
    """The tuple of the diagonals for which the deeds of the lot stand."""
    check_polygon(n, k)
    check_lot(bubble_word(n, k), lot)
    return pairs_for(n, k, lot)


def pairs_for(n, k, lot):
    """The tuple of the diagonals for which the deeds of the lot stand, for values that are checked already."""
    known = diagonals(n, k)
    return tuple([known[place] for place in lot])


def count_cuttings(n, k):
    """How many greatest cuttings there are."""
    check_polygon(n, k)
    corners = n + 2 * k
    return determinant([[catalan(corners - i - j) for j in range(1, k + 1)] for i in range(1, k + 1)])


def catalan(m):
    """The m-th Catalan number."""
    return comb(2 * m, m) // (m + 1)


def determinant(rows):
    """The determinant of a table with as many rows as columns, by its first row."""
    if not rows:
        return 1
    total = 0
    sign = 1
    for at, number in enumerate(rows[0]):
        total += sign * number * determinant([row[:at] + row[at + 1:] for row in rows[1:]])
        sign = -sign
    return total


def flip(n, k, pairs, pair):
    """The one other greatest cutting that has all diagonals of one but the pair, and what it has instead."""
    check_pairs(n, k, pairs)
    word = bubble_word(n, k)
    lot = places_for(n, k, pairs)
    if not is_greatest(n, word, sorted_row(n), lot):
        raise NotGreatest()
    if not is_one_of(pair, pairs):
        raise NoDiagonal()
    place = lot[pairs.index(pair)]
    partner = partners_of(n, word, lot)[place]
    return pairs_for(n, k, exchanged(lot, place, partner)), diagonals(n, k)[partner]
