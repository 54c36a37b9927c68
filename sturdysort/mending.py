"""Deeds that mend a word of which a lot has failed."""

from sturdysort.moves import are_as_great, counts_ahead, end_of, is_out_of_order, left_of, reaches, swapped
from sturdysort.values import check_lot, check_task


def mending(n, word, goal, lot):
    """The least of the shortest words that, put behind what is left of the word, make it reach the goal."""
    check_task(n, word, goal)
    check_lot(word, lot)
    least = counts_ahead(goal)
    ways = {end_of(n, left_of(word, lot)): ()}
    found = ways_to(ways, least)
    while not found:
        ways = ways_one_deed_on(ways)
        found = ways_to(ways, least)
    return found[0]


def ways_to(ways, least):
    """The list of the words of those rows whose counts are nowhere less than the least ones."""
    return [word for row, word in ways.items() if are_as_great(counts_ahead(row), least)]


def ways_one_deed_on(ways):
    """The rows that one more deed leads to, with the least words that lead there; words ascend here and there."""
    found = {}
    for row, word in ways.items():
        for deed in range(len(row) - 1):
            if is_out_of_order(row, deed):
                found.setdefault(swapped(row, deed), (*word, deed))
    return found


def spots(n, word, goal, lot):
    """The ascending tuple of the pairs (place, deed) of a deed that, put ahead of the place, mends the word."""
    check_task(n, word, goal)
    check_lot(word, lot)
    if reaches(left_of(word, lot), goal):
        return ()
    pairs = [(place, deed) for place in range(len(word) + 1) for deed in range(n - 1)]
    return tuple([(place, deed) for place, deed in pairs if reaches(left_with(word, lot, place, deed), goal)])


def left_with(word, lot, place, deed):
    """The word of the deeds that work if the lot fails, with a deed put ahead of a place of the whole word."""
    failing = [one + 1 if one >= place else one for one in lot]
    return left_of((*word[:place], deed, *word[place:]), failing)
