"""Lamps, which show of each card only whether it is one from a bound on."""

from sturdysort.errors import BadBound, BadLamps
from sturdysort.moves import behind, end_of, is_out_of_order, left_of, sorted_row, swapped
from sturdysort.values import MOST_CARDS, check_cards_and_word, check_lot, check_row, check_word, is_from_to, is_row


def lamps(row, bound):
    """The lamps of a row: 1 for the cards from the bound on."""
    check_row(row)
    if not is_from_to(bound, 0, len(row)):
        raise BadBound()
    return lamps_of(row, bound)


def lamps_of(row, bound):
    """The lamps of a row, for values that are checked already."""
    return tuple([1 if card >= bound else 0 for card in row])


def are_lamps(value):
    """Whether the value is a tuple of lamps."""
    if not isinstance(value, tuple) or not 1 <= len(value) <= MOST_CARDS:
        return False
    return all([is_from_to(lamp, 0, 1) for lamp in value])


def check_run(lamps, word, lot):
    """Raises BadLamps, BadWord or BadLot."""
    if not are_lamps(lamps):
        raise BadLamps()
    check_word(len(lamps), word)
    check_lot(word, lot)


def run_lamps(lamps, word, lot):
    """The lamps behind the word, the lot failing."""
    check_run(lamps, word, lot)
    # A deed exchanges lamps as it does cards: if the greater one is in front.
    return behind(lamps, left_of(word, lot))


def row_of(many):
    """The row whose lamps for the bounds 1, 2, .. are those told."""
    if not isinstance(many, tuple) or not all([are_lamps(one) for one in many]):
        raise BadLamps()
    n = len(many) + 1
    if not all([len(one) == n for one in many]):
        raise BadLamps()
    # A card has a lit lamp for just the bounds from 1 to itself.
    row = tuple([sum([one[place] for one in many]) for place in range(n)])
    if not is_row(row, n) or not all([one == lamps_of(row, at + 1) for at, one in enumerate(many)]):
        raise BadLamps()
    return row


def unsorted_bounds(n, word, lot):
    """The ascending tuple of the bounds for which the word, the lot failing, doesn't sort the turned row's lamps."""
    check_cards_and_word(n, word)
    check_lot(word, lot)
    row = end_of(n, left_of(word, lot))
    return tuple([bound for bound in range(1, n) if lamps_of(row, bound) != lamps_of(sorted_row(n), bound)])


def jumps(lamps, word, lot):
    """How often lamps are exchanged while the word runs, the lot failing."""
    check_run(lamps, word, lot)
    many = 0
    for deed in left_of(word, lot):
        if is_out_of_order(lamps, deed):
            lamps = swapped(lamps, deed)
            many += 1
    return many
