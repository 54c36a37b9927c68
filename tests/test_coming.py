"""Point 29: what can come of a row, whatever deeds fail, and with what chances."""

import random
import unittest
from fractions import Fraction

from helpers import (
    Cases, HALF, WRONG_CHANCES_OF_5, WRONG_ROWS, WRONG_WORDS_OF_3, all_deed_words, all_places, all_rows, chance_of_lot,
    means_no_less_sorted, search_run, share_of, some_chances, turned_row,
)
from sturdysort.coming import chances_of_ends, ends
from sturdysort.errors import BadChances, BadRow, BadWord, TooLong
from sturdysort.rows import no_less_sorted

WORD = (0, 1, 0, 1, 0)
ROW = (2, 1, 0)
NEVER = (0, 1)
SURELY = (1, 1)


def tasks():
    """Rows of every kind and short words."""
    found = [(row, word) for n, longest in ((1, 0), (2, 4), (3, 5), (4, 3))
             for row in all_rows(n) for word in all_deed_words(n, longest)]
    source = random.Random(29)
    for n in (3, 4, 4, 5, 5, 6, 7) * 2:
        word = tuple([source.randrange(n - 1) for _ in range(9)])
        found += [(turned_row(n), word), (tuple(source.sample(range(n), n)), word)]
    return found


class BySearch(Cases):
    def test_ends(self):
        for row, word in tasks():
            meant = sorted(set([search_run(row, word, lot) for lot in all_places(len(word))]))
            self.assertEqual(ends(row, word), tuple(meant))

    def test_ends_of_the_turned_row(self):
        for row, word in tasks():
            if row == turned_row(len(row)) and len(row) < 6:
                reached = search_run(row, word)
                meant = [one for one in all_rows(len(row)) if means_no_less_sorted(reached, one)]
                self.assertEqual(ends(row, word), tuple(meant))

    def test_chances(self):
        source = random.Random(30)
        for row, word in source.sample(tasks(), 300) + tasks()[-14:]:
            chances = some_chances(source, len(word))
            meant = {}
            for lot in all_places(len(word)):
                end = search_run(row, word, lot)
                meant[end] = meant.get(end, Fraction(0)) + chance_of_lot(chances, lot)
            shares = {end: share_of(part) for end, part in meant.items() if part}
            self.assertEqual(chances_of_ends(row, word, chances), shares)


class Edges(Cases):
    def test_no_deeds(self):
        for row in all_rows(3) + [(0,), (6, 5, 4, 3, 2, 1, 0)]:
            self.answers((row,), ends, row, ())
            self.answers({row: (1, 1)}, chances_of_ends, row, (), ())

    def test_deeds_that_do_nothing(self):
        self.answers(((0, 1, 2),), ends, (0, 1, 2), WORD)
        self.answers({(0, 1, 2): (1, 1)}, chances_of_ends, (0, 1, 2), WORD, (HALF,) * 5)

    def test_chances_0_and_1(self):
        self.answers({(0, 1): (1, 1)}, chances_of_ends, (1, 0), (0,), (NEVER,))
        self.answers({(1, 0): (1, 1)}, chances_of_ends, (1, 0), (0,), (SURELY,))
        self.answers({(0, 1): (1, 1)}, chances_of_ends, (1, 0), (0, 0), (SURELY, NEVER))
        self.answers({(0, 1, 2): (1, 1)}, chances_of_ends, ROW, WORD, (NEVER,) * 5)
        self.answers({ROW: (1, 1)}, chances_of_ends, ROW, WORD, (SURELY,) * 5)
        found = chances_of_ends(ROW, (0, 1), (HALF, SURELY))
        self.assertEqual(found, {(1, 2, 0): (1, 2), (2, 1, 0): (1, 2)})

    def test_40_and_41_deeds(self):
        word, chances = (0, 1) * 20, (HALF,) * 40
        self.answers(tuple(all_rows(3)), ends, ROW, word)
        found = chances_of_ends(ROW, word, chances)
        self.assertEqual(sum([Fraction(*share) for share in found.values()]), 1)
        self.assertEqual(found[ROW], (1, 2 ** 40))
        self.refuses(TooLong, ends, ROW, (0,) * 41, most=40)
        self.refuses(TooLong, chances_of_ends, ROW, (0,) * 41, chances, most=40)
        self.refuses(TooLong, ends, ROW, (0,) * 200, most=40)
        self.refuses(BadWord, ends, ROW, (0,) * 201)
        self.refuses(BadWord, chances_of_ends, ROW, (0,) * 201, chances)

    def test_seven_cards(self):
        word = (0, 1, 2, 3, 4, 5) * 6 + (0, 1, 2, 3)
        self.answers(tuple(all_rows(7)), ends, turned_row(7), word)
        found = chances_of_ends(turned_row(7), word[:20], ((1, 999983),) * 20)
        self.assertEqual(sum([Fraction(*share) for share in found.values()]), 1)
        self.assertEqual(tuple(sorted(found)), ends(turned_row(7), word[:20]))

    def test_what_comes_is_no_less_sorted_than_the_row(self):
        for row in ends((3, 1, 0, 2), (0, 1, 2, 0, 1)):
            self.assertTrue(no_less_sorted(row, (3, 1, 0, 2)))


class WrongValues(Cases):
    def test_each_parameter(self):
        for function, args in ((ends, [ROW, WORD]), (chances_of_ends, [ROW, WORD, (HALF,) * 5])):
            self.refuses_each(BadRow, function, args, 0, WRONG_ROWS)
            self.refuses_each(BadWord, function, args, 1, WRONG_WORDS_OF_3)
        self.refuses_each(BadChances, chances_of_ends, [ROW, WORD, (HALF,) * 5], 2, WRONG_CHANCES_OF_5)

    def test_words_of_other_rows(self):
        self.refuses(BadWord, ends, (1, 0), WORD)
        self.refuses(BadWord, ends, (0,), (0,))

    def test_order(self):
        row = (ROW, ((1, 1), BadRow), (8, BadRow))
        word = (WORD, ((2,), BadWord), ((0,) * 41, TooLong))
        self.refuses_in_order(ends, row, word)
        self.refuses_in_order(chances_of_ends, row, word, ((HALF,) * 5, ((HALF,) * 4, BadChances)))


if __name__ == "__main__":
    unittest.main()
