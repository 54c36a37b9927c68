"""What the tests share: wrong values of every kind, and the document's meanings by plain search."""

import copy
import random
import unittest
from fractions import Fraction
from itertools import combinations, permutations, product

from sturdysort.errors import BadCards, BadGoal, BadWord, TooLong


def nested(kind, depth):
    """A value of one kind within another, so many deep."""
    value = kind()
    for _ in range(depth - 1):
        value = {"a": value} if kind is dict else kind([value])
    return value


# None of these is a number of cards, a row, a word, a lot or a text.
ODD = [
    None, True, False, -1, -2, 10 ** 40, -10 ** 40, "", "0", "abc", "\n", [], {}, [0], [[]], {0: 0}, {"a": (1, 2)},
    (None,), (True,), (False,), ("0",), ("",), ([],), ({},), ((),), ((0,),), (-1,), (10 ** 40,), (-10 ** 40,),
    (0, None), (0, "1"), (0, [1]), (0, True), (False, 1), (0, (1,)), {(0, 1): [None, (True,)]},
    nested(tuple, 30), nested(list, 30), nested(dict, 30),
]
ODD_VALUES = [value for value in ODD if not isinstance(value, str)]
WRONG_CARDS = ODD + [0, 8, 9, (), (3,), [3], "3", {3: 3}]
WRONG_ROWS = ODD + [0, 3, (), (1,), (0, 0), (1, 1), (0, 2), (1, 2), (0, 1, 3), (0, -1, 1), [0, 1], [0, 1, 2],
                    tuple(range(8)), tuple(range(7, -1, -1)), (0, 1, 2, 2), "01", {0: 0, 1: 1}]
WRONG_GOALS_OF_3 = WRONG_ROWS + [(0,), (0, 1), (1, 0), (0, 1, 2, 3), (3, 2, 1, 0)]
WRONG_WORDS_OF_3 = ODD + [0, 2, (2,), (0, 1, 2), (0, -1), (0, 1, True), [0, 1], "01", {0: 1}, (0,) * 201, (0, 1) * 101]
# Wrong for words of 5 deeds.
WRONG_LOTS_OF_5 = ODD + [0, 2, (5,), (0, 5), (1, 0), (0, 0), (2, 2), (0, 1, 1), (4, 3), (3, -1), (0, 1, True), [0, 1],
                         "01", {0: 1}, (0, 1, 2, 3, 4, 5), (0, 2, 1)]
WRONG_INTEGERS = ODD + [(), (0,), (1, 2), "1", [1], {1: 1}]
# Wrong for numbers from 0 to 3.
WRONG_TIMES = ODD + [4, 5, (), (1,), [1], "1", {1: 1}]
HALF = (1, 2)
WRONG_SHARES = ODD + [
    (), (0,), (1,), (0, 0), (1, 0), (0, 2), (2, 2), (2, 4), (3, 6), (-1, 2), (1, -2), (-1, -2), (0, -1), (2, 1), (3, 2),
    (1, 10 ** 6 + 1), (0, 10 ** 6), (10 ** 6, 10 ** 6), (10 ** 6 + 1, 10 ** 6 + 1), (10 ** 6, 10 ** 6 + 1),
    (1, 10 ** 40), (True, 1), (False, 1), (0, True), (1, True), (1, 2, 3), [1, 2], "12", {1: 2}, ((1, 2),), (None, 2),
    (1, None), ("1", 2), ((1,), 2), (1, (2,)), 0, 1,
]
# Wrong for words of 5 deeds.
WRONG_CHANCES_OF_5 = ODD + [(), (HALF,), (HALF,) * 4, (HALF,) * 6, [HALF] * 5, {HALF: HALF}, (1, 2), (0,) * 5, "11111",
                            ((0, 1),) * 4, 0] + \
    [(HALF,) * at + (share,) + (HALF,) * (4 - at) for at in (0, 2, 4) for share in WRONG_SHARES]

# Words with their numbers of cards that sort every row, with exactly so many greatest lots.
WORD_OF_500 = (3, (0,) * 5 + (1,) * 10 + (0,) * 10)
WORD_OF_501 = (3, (0,) * 3 + (1,) * 3 + (0,) * 3 + (1,) * 5 + (0,) * 11)
WORD_OF_3000 = (5, (2, 2, 0, 0, 1, 2, 0, 2, 2, 0, 1, 3, 2, 3, 2, 2, 2, 1, 1, 3, 0, 0, 1, 0))
WORD_OF_3001 = (4, (0, 1, 0, 1, 0, 1, 2, 0, 0, 1, 1, 0, 2, 1, 0, 1, 0, 2, 1, 2, 2, 2, 2, 0))


def exactly(value):
    """The value with its kinds, so that True and 1, or a list and a tuple, differ."""
    return repr(value)


class Cases(unittest.TestCase):
    """A test case that looks at answers and errors as point 1 tells."""

    def answers(self, expected, function, *args):
        """The function answers so, and again, and changes nothing that it is handed."""
        kept = copy.deepcopy(args)
        first = function(*args)
        second = function(*args)
        self.assertEqual(exactly(first), exactly(expected), (function.__name__, args))
        self.assertEqual(exactly(second), exactly(expected), (function.__name__, args))
        self.assertEqual(exactly(args), exactly(kept))

    def refuses(self, error, function, *args, **fields):
        """The function raises just this error, with just these fields, and changes nothing."""
        kept = copy.deepcopy(args)
        for _ in range(2):
            with self.assertRaises(ValueError, msg=(function.__name__, args)) as caught:
                function(*args)
            self.assertIs(type(caught.exception), error, (function.__name__, args))
            self.assertEqual(exactly(vars(caught.exception)), exactly(fields), (function.__name__, args))
        self.assertEqual(exactly(args), exactly(kept))

    def refuses_each(self, error, function, args, at, values):
        """The function raises the error for each of the values at one of its parameters."""
        for value in values:
            self.refuses(error, function, *args[:at], value, *args[at + 1:])

    def refuses_wrong_tasks(self, function, args):
        """Right arguments (3, a word, a goal, ..) of a function are refused with a wrong one of the first three."""
        self.refuses_each(BadCards, function, args, 0, WRONG_CARDS)
        self.refuses_each(BadWord, function, args, 1, WRONG_WORDS_OF_3)
        self.refuses_each(BadGoal, function, args, 2, WRONG_GOALS_OF_3)
        self.refuses(TooLong, function, 3, (0,) * 41, *args[2:], most=40)
        self.refuses(TooLong, function, 3, (0, 1) * 100, *args[2:], most=40)
        self.refuses(BadWord, function, 3, (0,) * 201, *args[2:])

    def refuses_in_order(self, function, *choices):
        """Of several wrong arguments the first one's error is raised.

        A choice is a right value and pairs (wrong value, error) for a parameter.
        """
        for picked in product(*[range(len(choice)) for choice in choices]):
            args = [choice[k] if k == 0 else choice[k][0] for k, choice in zip(picked, choices)]
            errors = [choice[k][1] for k, choice in zip(picked, choices) if k]
            if errors:
                with self.assertRaises(ValueError, msg=(function.__name__, args)) as caught:
                    function(*args)
                self.assertIs(type(caught.exception), errors[0], (function.__name__, args))
            else:
                function(*args)


def all_rows(n):
    """All rows of n cards, ascending."""
    return list(permutations(range(n)))


def all_deed_words(n, longest):
    """All words of n cards with at most so many deeds."""
    return [word for length in range(longest + 1) for word in product(range(n - 1), repeat=length)]


def all_places(length):
    """All ascending tuples of unlike places of a word of a length."""
    return [places for many in range(length + 1) for places in combinations(range(length), many)]


def search_run(row, word, lot=()):
    """The row behind the word, the lot failing, deed by deed."""
    cards = list(row)
    for place, k in enumerate(word):
        if place not in lot and cards[k] > cards[k + 1]:
            cards[k], cards[k + 1] = cards[k + 1], cards[k]
    return tuple(cards)


def search_shortest(row):
    """For each row that can come of a row the ascending list of all shortest words that lead there."""
    found = {row: [()]}
    words = [()]
    fresh = True
    while fresh:
        words = [(*word, k) for word in words for k in range(len(row) - 1)
                 if search_run(row, (*word, k)) != search_run(row, word)]
        fresh = False
        shorter = list(found)
        for word in words:
            there = search_run(row, word)
            if there not in shorter:
                found.setdefault(there, []).append(word)
                fresh = True
    return found


def means_no_less_sorted(row, other):
    """Point 4's words."""
    for i in range(len(row) + 1):
        for v in range(len(row) + 1):
            if len([card for card in row[:i] if card < v]) < len([card for card in other[:i] if card < v]):
                return False
    return True


def search_harmless(n, word, goal):
    """All harmless lots, by what their ends are."""
    turned = tuple(range(n - 1, -1, -1))
    return [lot for lot in all_places(len(word)) if means_no_less_sorted(search_run(turned, word, lot), goal)]


def search_greatest(n, word, goal):
    """All greatest lots in their order."""
    harmless = search_harmless(n, word, goal)
    sets = [set(lot) for lot in harmless]
    greatest = [lot for lot, own in zip(harmless, sets) if not any(own < other for other in sets)]
    return sorted(greatest, key=lambda lot: [place in lot for place in range(len(word))])


def turned_row(n):
    """The row n - 1, .., 1, 0."""
    return tuple(range(n))[::-1]


def share_of(number):
    """A fraction as a share."""
    return number.numerator, number.denominator


def search_tasks(seed):
    """Words of up to nine deeds and goals, to be searched through with all their lots."""
    found = []
    for n, longest in ((1, 0), (2, 4), (3, 4), (4, 2)):
        found += [(n, word, goal) for word in all_deed_words(n, longest) for goal in all_rows(n)]
    source = random.Random(seed)
    for n, length in ((2, 9), (3, 8), (3, 9), (4, 8), (4, 9), (5, 9)) * 3:
        word = tuple([source.randrange(n - 1) for _ in range(length)])
        goals = [tuple(range(n)), search_run(turned_row(n), word), search_run(turned_row(n), word[::2])]
        found += [(n, word, goal) for goal in goals + [source.choice(all_rows(n))]]
    found += [(3, (0, 1, 0, 1, 0), (0, 1, 2)), (4, (0, 1, 2, 0, 1, 2, 0, 1, 0), (0, 1, 2, 3))]
    return found


def some_chances(source, length):
    """Chances for so many deeds, 0 and 1 among them."""
    bottoms = [source.choice([1, 1, 2, 3, 7, 999983, 10 ** 6]) for _ in range(length)]
    return tuple([share_of(Fraction(source.randrange(bottom + 1), bottom)) for bottom in bottoms])


def chance_of_lot(chances, lot):
    """The chance that just the deeds of a lot fail."""
    found = Fraction(1)
    for place, chance in enumerate(chances):
        fails = Fraction(*chance)
        found *= fails if place in lot else 1 - fails
    return found


def search_meets(n, word, lot):
    """The pairs that the deeds find, and whether each of them passes."""
    cards = list(range(n - 1, -1, -1))
    found = []
    for place, k in enumerate(word):
        found.append((cards[k], cards[k + 1]))
        if place not in lot:
            cards[k], cards[k + 1] = cards[k + 1], cards[k]
    return tuple(found)
