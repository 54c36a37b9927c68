"""Checks of the values that are handed in."""

from sturdysort.errors import BadCards, BadGoal, BadLot, BadPlace, BadRow, BadWord, TooLong

MOST_CARDS = 7
MOST_DEEDS = 200
MOST_DEEDS_THAT_FAIL = 40


def is_integer(value):
    """Whether the value is an integer; True and False are none."""
    return isinstance(value, int) and not isinstance(value, bool)


def is_from_to(value, low, high):
    """Whether the value is an integer from low to high."""
    return is_integer(value) and low <= value <= high


def is_row(value, n):
    """Whether the value is a row of n cards."""
    if not isinstance(value, tuple) or not all([is_integer(card) for card in value]):
        return False
    return sorted(value) == list(range(n))


def is_word(value, n):
    """Whether the value is a word of deeds for n cards."""
    if not isinstance(value, tuple) or len(value) > MOST_DEEDS:
        return False
    return all([is_from_to(deed, 0, n - 2) for deed in value])


def is_lot(value, word):
    """Whether the value is a lot of the word."""
    if not isinstance(value, tuple) or not all([is_from_to(place, 0, len(word) - 1) for place in value]):
        return False
    return all([place < later for place, later in zip(value, value[1:])])


def check_cards(n):
    """Raises BadCards if n is not a number of cards."""
    if not is_from_to(n, 1, MOST_CARDS):
        raise BadCards()


def check_row(row):
    """Raises BadRow if the value is not a row of some number of cards."""
    if not isinstance(row, tuple) or not 1 <= len(row) <= MOST_CARDS or not is_row(row, len(row)):
        raise BadRow()


def check_rows(row, other):
    """Raises BadRow if the two are not rows of as many cards."""
    check_row(row)
    if not is_row(other, len(row)):
        raise BadRow()


def check_word(n, word):
    """Raises BadWord if the value is not a word for n cards."""
    if not is_word(word, n):
        raise BadWord()


def check_cards_and_word(n, word):
    """Raises BadCards or BadWord."""
    check_cards(n)
    check_word(n, word)


def check_lot(word, lot):
    """Raises BadLot if the value is not a lot of the word."""
    if not is_lot(lot, word):
        raise BadLot()


def check_place(place, most):
    """Raises BadPlace if the value is not a place from 0 to the last one."""
    if not is_from_to(place, 0, most):
        raise BadPlace()


def check_goal(n, goal):
    """Raises BadGoal if the value is not a row of n cards."""
    if not is_row(goal, n):
        raise BadGoal()


def check_word_up_to(n, word, most):
    """Raises BadWord if the value is not a word for n cards, TooLong if it has more than so many deeds."""
    check_word(n, word)
    if len(word) > most:
        raise TooLong(most)


def check_word_that_fails(n, word):
    """Raises BadCards, BadWord or TooLong for a word whose lots are asked for."""
    check_cards(n)
    check_word_up_to(n, word, MOST_DEEDS_THAT_FAIL)


def check_task(n, word, goal):
    """Raises the errors of a word whose lots are asked for and of its goal."""
    check_word_that_fails(n, word)
    check_goal(n, goal)
