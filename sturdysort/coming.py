"""What rows can come of a row, whatever deeds fail, and with what chances."""

from sturdysort.moves import is_out_of_order, swapped
from sturdysort.shares import check_chances, common_bottom, lowest
from sturdysort.values import check_row, check_word_that_fails


def ends(row, word):
    """The ascending tuple of all rows that can come of a row, whatever deeds fail."""
    check_row_and_word(row, word)
    reached = {row: True}
    for deed in word:
        for one in list(reached):
            if is_out_of_order(one, deed):
                reached[swapped(one, deed)] = True
    return tuple(sorted(reached))


def check_row_and_word(row, word):
    """Raises BadRow, BadWord or TooLong."""
    check_row(row)
    check_word_that_fails(len(row), word)


def chances_of_ends(row, word, chances):
    """The dict that tells for each row the chance, a share, that it comes; those with chance 0 are left out."""
    check_row_and_word(row, word)
    check_chances(word, chances)
    weights = {row: 1}
    for deed, share in zip(word, chances):
        weights = weights_behind(weights, deed, share)
    bottom = common_bottom(chances)
    return {one: lowest(weight, bottom) for one, weight in weights.items()}


def weights_behind(weights, deed, share):
    """The rows' chances behind a deed, all of them times the bottoms of the shares so far."""
    top, bottom = share
    found = {}
    for row, weight in weights.items():
        if is_out_of_order(row, deed):
            branches = [(row, top), (swapped(row, deed), bottom - top)]
        else:
            branches = [(row, bottom)]
        for later, times in branches:
            if times:
                found[later] = found.get(later, 0) + weight * times
    return found
