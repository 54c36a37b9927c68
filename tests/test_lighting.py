"""Points 36 and 37: lamps, their runs, and the bounds for which words don't sort."""

import random
import unittest
from itertools import product

from helpers import (
    Cases, ODD, WRONG_CARDS, WRONG_INTEGERS, WRONG_LOTS_OF_5, WRONG_ROWS, WRONG_WORDS_OF_3, all_deed_words, all_places,
    all_rows, exactly, search_run, turned_row,
)
from sturdysort.errors import BadBound, BadCards, BadLamps, BadLot, BadRow, BadWord
from sturdysort.lighting import jumps, lamps, row_of, run_lamps, unsorted_bounds
from sturdysort.rows import run
from sturdysort.words import sorts_all

WORD = (0, 1, 0, 1, 0)
WRONG_LAMPS = ODD + [
    0, 1, (), (2,), (-1,), (0, 2), (1, 0, 2), (1, 0, True), (False, 1, 0), (True, False), (None, 0), (0, "1"),
    (0, (1,)), (0, [1]), [0, 1], [1, 1, 0], [0], "01", "110", {0: 1, 1: 0}, (0,) * 8, (1,) * 8, (1, 0) * 4, (0,) * 40,
    ((1, 1, 0),), (10 ** 40, 0), (0, -10 ** 40),
]


def meant_lamps(row, bound):
    """Point 36's words."""
    return tuple([int(card in range(bound, len(row))) for card in row])


def search_lamps(lit, word, lot):
    """The lamps behind the word, deed by deed, and how often they are exchanged."""
    now, many = list(lit), 0
    for place, k in enumerate(word):
        if place not in lot and (now[k], now[k + 1]) == (1, 0):
            now[k], now[k + 1] = 0, 1
            many += 1
    return tuple(now), many


class Lamps(Cases):
    def test_every_row_and_bound(self):
        for n in range(1, 6):
            for row in all_rows(n):
                for bound in range(n + 1):
                    self.assertEqual(exactly(lamps(row, bound)), exactly(meant_lamps(row, bound)))
                self.refuses(BadBound, lamps, row, n + 1)
                self.refuses(BadBound, lamps, row, -1)

    def test_seven_cards(self):
        row = (3, 6, 0, 5, 1, 4, 2)
        self.answers((1,) * 7, lamps, row, 0)
        self.answers((1, 1, 0, 1, 0, 1, 0), lamps, row, 3)
        self.answers((0, 1, 0, 0, 0, 0, 0), lamps, row, 6)
        self.answers((0,) * 7, lamps, row, 7)
        self.answers((1,), lamps, (0,), 0)
        self.answers((0,), lamps, (0,), 1)

    def test_wrong_values(self):
        self.refuses_each(BadRow, lamps, [(2, 0, 1), 1], 0, WRONG_ROWS)
        self.refuses_each(BadBound, lamps, [(2, 0, 1), 1], 1, WRONG_INTEGERS + [4, 5, -1])
        self.refuses_in_order(lamps, ((1, 0), ((1, 1), BadRow), ([0], BadRow)), (2, (3, BadBound), (True, BadBound)))


class Runs(Cases):
    def test_all_lamps_and_short_words(self):
        for n, longest in ((1, 0), (2, 3), (3, 4), (4, 3)):
            for lit in product((0, 1), repeat=n):
                for word in all_deed_words(n, longest):
                    for lot in all_places(len(word)):
                        meant, many = search_lamps(lit, word, lot)
                        self.assertEqual(exactly(run_lamps(lit, word, lot)), exactly(meant))
                        self.assertEqual(exactly(jumps(lit, word, lot)), exactly(many))

    def test_a_run_of_a_row_is_that_of_its_lamps(self):
        source = random.Random(36)
        for _ in range(300):
            n = source.randrange(1, 8)
            row = tuple(source.sample(range(n), n))
            word = tuple([source.randrange(n - 1) for _ in range(source.randrange(30))]) if n > 1 else ()
            lot = tuple(sorted(source.sample(range(len(word)), source.randrange(len(word) + 1))))
            later = run(row, word, lot)
            for bound in range(n + 1):
                self.assertEqual(run_lamps(lamps(row, bound), word, lot), lamps(later, bound))
            for bound in range(1, n):
                self.assertEqual(jumps(lamps(row, bound), word, lot), search_lamps(lamps(row, bound), word, lot)[1])

    def test_lamps_need_not_be_those_of_a_turned_row(self):
        self.answers((0, 0, 1, 1), run_lamps, (0, 1, 0, 1), (1,), ())
        self.answers((0, 1, 0, 1), run_lamps, (0, 1, 0, 1), (0, 2), ())
        self.answers((0, 1, 0, 1), run_lamps, (0, 1, 0, 1), (1,), (0,))
        self.answers((1, 1), run_lamps, (1, 1), (0,), ())
        self.answers((0, 0), run_lamps, (0, 0), (0,), ())

    def test_200_deeds(self):
        word = (0, 1, 2, 3, 4, 5) * 33 + (0, 1)
        self.answers((0, 0, 0, 1, 1, 1, 1), run_lamps, (1, 1, 1, 1, 0, 0, 0), word, ())
        self.answers(12, jumps, (1, 1, 1, 1, 0, 0, 0), word, ())
        self.answers((1, 1, 1, 1, 0, 0, 0), run_lamps, (1, 1, 1, 1, 0, 0, 0), word, tuple(range(200)))
        self.answers(0, jumps, (1, 1, 1, 1, 0, 0, 0), word, tuple(range(200)))
        self.answers(1, jumps, (1, 1, 1, 1, 0, 0, 0), word, tuple([k for k in range(200) if k != 3]))
        self.refuses(BadWord, run_lamps, (1, 0), (0,) * 201, ())
        self.refuses(BadWord, jumps, (1, 0), (0,) * 201, ())

    def test_one_lamp(self):
        for lit in ((0,), (1,)):
            self.answers(lit, run_lamps, lit, (), ())
            self.answers(0, jumps, lit, (), ())
            self.refuses(BadWord, run_lamps, lit, (0,), ())
            self.refuses(BadWord, jumps, lit, (0,), ())

    def test_wrong_values(self):
        args = [(1, 1, 0), WORD, ()]
        for function in (run_lamps, jumps):
            self.refuses_each(BadLamps, function, args, 0, WRONG_LAMPS)
            self.refuses_each(BadWord, function, args, 1, WRONG_WORDS_OF_3)
            self.refuses_each(BadLot, function, args, 2, WRONG_LOTS_OF_5)
            self.refuses(BadWord, function, (1, 0), (0, 1), ())
            self.refuses_in_order(function, ((1, 1, 0), ((1, 2), BadLamps), ((), BadLamps)),
                                  ((0, 1), ((2,), BadWord), ([0], BadWord)), ((0,), ((5,), BadLot), ((0, 0), BadLot)))


class RowsOfLamps(Cases):
    def test_there_and_back(self):
        for n in range(1, 7):
            for row in all_rows(n):
                many = tuple([meant_lamps(row, bound) for bound in range(1, n)])
                self.assertEqual(exactly(row_of(many)), exactly(row))
        source = random.Random(37)
        for _ in range(50):
            row = tuple(source.sample(range(7), 7))
            self.answers(row, row_of, tuple([lamps(row, bound) for bound in range(1, 7)]))

    def test_all_tuples_of_lamps(self):
        for n in (1, 2, 3):
            rows = {tuple([meant_lamps(row, bound) for bound in range(1, n)]): row for row in all_rows(n)}
            for many in product(list(product((0, 1), repeat=n)), repeat=n - 1):
                if many in rows:
                    self.answers(rows[many], row_of, many)
                else:
                    self.refuses(BadLamps, row_of, many)

    def test_no_row(self):
        source = random.Random(38)
        for n in (4, 5, 7):
            for _ in range(100):
                row = tuple(source.sample(range(n), n))
                many = [lamps(row, bound) for bound in range(1, n)]
                at, place = source.randrange(n - 1), source.randrange(n)
                bent = [list(one) for one in many]
                bent[at][place] = 1 - bent[at][place]
                self.refuses(BadLamps, row_of, tuple([tuple(one) for one in bent]))
                self.refuses(BadLamps, row_of, tuple(many[:at] + many[at + 1:]))
                self.refuses(BadLamps, row_of, tuple(many[:at] + [many[at]] + many[at:]))
                if n > 2:
                    self.refuses(BadLamps, row_of, tuple(many[::-1]))

    def test_one_card(self):
        # Of one card there are no bounds between; so no lamps are told.
        self.answers((0,), row_of, ())
        self.refuses(BadLamps, row_of, ((0,),))
        self.refuses(BadLamps, row_of, ((1,),))
        self.refuses(BadLamps, row_of, ((),))

    def test_wrong_values(self):
        self.answers((2, 0, 1), row_of, ((1, 0, 1), (1, 0, 0)))
        for value in ODD + [0, (1, 0), [(1, 0)], ([1, 0],), {(1, 0): 1}, ((1, 0), (1, 0)), ((1, False),), ((True, 0),),
                            ((1, 0, 1), [1, 0, 0]), ((1, 0, 1), None), ((1, 0, 1), 1), ((1, 0, 2), (1, 0, 0)),
                            ((1, 0, 1), (1, 0, 0), (0, 0, 0)), ((1, 1, 1), (1, 0, 1), (1, 0, 0)), ((1, 0, 1),),
                            ((1, 0, 0), (1, 0, 1)), ((0, 0),), ((1, 1),), "10", ("10",), ((1, 0), (1, 0, 0)),
                            tuple([tuple([int(card >= bound) for card in range(8)]) for bound in range(1, 8)]),
                            ((1,) * 8,) * 7, ((0,) * 7,) * 6, ((0, 1),) * 200]:
            self.refuses(BadLamps, row_of, value)


class UnsortedBounds(Cases):
    def test_short_words_and_all_lots(self):
        for n, longest in ((1, 0), (2, 3), (3, 5), (4, 4)):
            for word in all_deed_words(n, longest):
                for lot in all_places(len(word)):
                    self.look_at(n, word, lot)

    def look_at(self, n, word, lot):
        meant = []
        for bound in range(1, n):
            lit, _ = search_lamps(lamps(turned_row(n), bound), word, lot)
            if list(lit) != sorted(lit):
                meant.append(bound)
        self.assertEqual(exactly(unsorted_bounds(n, word, lot)), exactly(tuple(meant)))
        left = [deed for place, deed in enumerate(word) if place not in lot]
        self.assertIs(sorts_all(n, tuple(left)), not meant)

    def test_what_is_left_sorts_every_row_if_there_are_none(self):
        for n, word in ((3, WORD), (4, (0, 1, 2, 0, 1, 2, 0, 1))):
            for lot in all_places(len(word)):
                every = all(search_run(row, word, lot) == tuple(range(n)) for row in all_rows(n))
                self.assertIs(unsorted_bounds(n, word, lot) == (), every)

    def test_long_words(self):
        source = random.Random(39)
        for n in (2, 5, 6, 7, 7):
            for length in (8, 20, 60, 200):
                word = tuple([source.randrange(n - 1) for _ in range(length)])
                for many in (0, length // 3, length - 1):
                    self.look_at(n, word, tuple(sorted(source.sample(range(length), many))))

    def test_edges(self):
        self.answers((), unsorted_bounds, 1, (), ())
        self.answers((1, 2, 3, 4, 5, 6), unsorted_bounds, 7, (), ())
        self.answers((1,), unsorted_bounds, 3, (0, 1), ())
        self.answers((2,), unsorted_bounds, 3, (1, 0), ())
        self.answers((1, 2), unsorted_bounds, 3, (0, 1), (0,))
        self.answers((), unsorted_bounds, 3, WORD, (2,))
        self.answers((), unsorted_bounds, 7, (0, 1, 2, 3, 4, 5) * 33, ())

    def test_wrong_values(self):
        args = [3, WORD, ()]
        self.refuses_each(BadCards, unsorted_bounds, args, 0, WRONG_CARDS)
        self.refuses_each(BadWord, unsorted_bounds, args, 1, WRONG_WORDS_OF_3)
        self.refuses_each(BadLot, unsorted_bounds, args, 2, WRONG_LOTS_OF_5)
        self.refuses_in_order(unsorted_bounds, (3, (0, BadCards)), (WORD, ((2,), BadWord)), ((0,), ((1, 0), BadLot)))


if __name__ == "__main__":
    unittest.main()
