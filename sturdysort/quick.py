"""The fewest rounds of deeds, done side by side, that do the same as a word."""

from sturdysort.moves import behind, end_of, steps_to, turned_row
from sturdysort.values import check_cards_and_word


def quickest(n, word):
    """The least tuple of the fewest rounds that do the same as the word, each deed exchanging two cards."""
    check_cards_and_word(n, word)
    goal = end_of(n, word)
    ways = {turned_row(n): ()}
    latest = [turned_row(n)]
    while goal not in ways:
        latest = rows_one_round_on(ways, latest, goal)
    return ways[goal]


def rows_one_round_on(ways, latest, goal):
    """Puts the rows that one more round first leads to into the ways; the list of these rows."""
    fresh = []
    for row in latest:
        for deeds in rounds_of(steps_to(row, goal)):
            later = behind(row, deeds)
            # Ways and rounds both ascend here, so the first way that leads to a row is the least one.
            if later not in ways:
                ways[later] = (*ways[row], deeds)
                fresh.append(later)
    return fresh


def rounds_of(deeds):
    """The ascending list of all rounds, none of them empty, of deeds that ascend."""
    found = [()]
    for deed in deeds:
        found = found + [(*some, deed) for some in found if not some or deed - some[-1] > 1]
    return sorted(found[1:])
