"""What words do to every row: their ends, and the shortest words that do the same."""

from sturdysort.choices import least_places
from sturdysort.errors import TooMany
from sturdysort.moves import end_of, is_out_of_order, length_to, sorted_row, steps_to, swapped, turned_row
from sturdysort.rows import way
from sturdysort.values import check_cards_and_word, check_goal, check_row, check_word

MOST_WORDS = 5000


def end(n, word):
    """The turned row behind the word."""
    check_cards_and_word(n, word)
    return end_of(n, word)


def are_alike(n, one, other):
    """Whether two words do the same to every row."""
    check_cards_and_word(n, one)
    check_word(n, other)
    return end_of(n, one) == end_of(n, other)


def sorts_all(n, word):
    """Whether the word sorts every row."""
    return end(n, word) == sorted_row(n)


def least_word(n, word):
    """Of the shortest words that do the same the least one."""
    goal = end(n, word)
    return way(turned_row(n), goal)


def lacking(n, word):
    """Of the shortest words that, put behind the word, make it sort every row, the least one."""
    return way(end(n, word), sorted_row(n))


def count_words(row):
    """How many shortest words lead the turned row to the row."""
    check_row(row)
    counts = {row: 1}
    for _ in range(length_to(row)):
        counts = counts_one_step_back(counts)
    return counts[turned_row(len(row))]


def counts_one_step_back(counts):
    """How many shortest words lead there, for the rows from which one deed leads to rows with known counts."""
    further = {}
    for row, many in counts.items():
        for deed in range(len(row) - 1):
            if not is_out_of_order(row, deed):
                ahead = swapped(row, deed)
                further[ahead] = further.get(ahead, 0) + many
    return further


def all_words(row):
    """The ascending tuple of the shortest words that lead the turned row to the row."""
    if count_words(row) > MOST_WORDS:
        raise TooMany(MOST_WORDS)
    found = [((), turned_row(len(row)))]
    for _ in range(length_to(row)):
        found = [((*word, deed), swapped(now, deed)) for word, now in found for deed in steps_to(now, row)]
    return tuple([word for word, _ in found])


def scattered(n, word, goal):
    """The least tuple of places whose deeds are a shortest word that leads the turned row to the goal."""
    check_cards_and_word(n, word)
    check_goal(n, goal)
    return least_places(word, goal, ())
