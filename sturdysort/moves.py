"""How deeds change rows, for values that are checked already."""


def turned_row(n):
    """The row n - 1, .., 1, 0."""
    return tuple(range(n - 1, -1, -1))


def sorted_row(n):
    """The row 0, 1, .., n - 1."""
    return tuple(range(n))


def swapped(row, deed):
    """The row with the two cards of the deed put past one another."""
    return row[:deed] + (row[deed + 1], row[deed]) + row[deed + 2:]


def is_out_of_order(row, deed):
    """Whether the deed would exchange its two cards."""
    return row[deed] > row[deed + 1]


def behind(row, word):
    """The row behind all deeds of the word."""
    for deed in word:
        if is_out_of_order(row, deed):
            row = swapped(row, deed)
    return row


def left_of(word, lot):
    """The word of the deeds that work if the lot fails."""
    return tuple([deed for place, deed in enumerate(word) if place not in lot])


def outside(word, places):
    """The ascending tuple of the word's other places."""
    return tuple([place for place in range(len(word)) if place not in places])


def end_of(n, word):
    """The turned row behind the word."""
    return behind(turned_row(n), word)


def pairs_out(row):
    """The ascending list of the pairs (greater, lesser) out of order."""
    places = places_of(row)
    return [(high, low) for high in range(len(row)) for low in range(high) if places[high] < places[low]]


def places_of(row):
    """For each card its place."""
    places = [0] * len(row)
    for place, card in enumerate(row):
        places[card] = place
    return places


def steps_to(row, goal):
    """The ascending list of the deeds that begin a shortest word from the row to a goal that can come of it."""
    places = places_of(goal)
    # Two cards in order never change, so those that must are out of order in the row.
    return [deed for deed in range(len(row) - 1) if places[row[deed]] > places[row[deed + 1]]]


def length_to(goal):
    """How many deeds a shortest word has that leads the turned row to the goal."""
    n = len(goal)
    return n * (n - 1) // 2 - len(pairs_out(goal))


def count_less(row, i, v):
    """How many of the first i cards are less than v."""
    return sum([1 for card in row[:i] if card < v])


def counts_ahead(row):
    """The list, for i and v from 1 on, of how many of the first i cards are less than v."""
    within = range(1, len(row))
    return [count_less(row, i, v) for i in within for v in within]


def is_as_sorted(row, other):
    """Whether the row is no less sorted than the other one."""
    return are_as_great(counts_ahead(row), counts_ahead(other))


def are_as_great(counts, others):
    """Whether no count is less than that of the others that stands at its place."""
    return all([here >= there for here, there in zip(counts, others)])


def reaches(word, goal):
    """Whether the word's end is no less sorted than the goal."""
    return is_as_sorted(end_of(len(goal), word), goal)
