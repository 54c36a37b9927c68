"""Points 2, 3 and 4: rows, what can come of them, and how sorted they are."""

import unittest

from helpers import (
    Cases, WRONG_CARDS, WRONG_GOALS_OF_3, WRONG_LOTS_OF_5, WRONG_ROWS, WRONG_WORDS_OF_3, all_deed_words, all_places,
    all_rows, means_no_less_sorted, search_run, search_shortest,
)
from sturdysort.errors import BadCards, BadLot, BadRow, BadWord, NoWay
from sturdysort.rows import can_come, in_order, no_less_sorted, out_pairs, run, stretch, turned, way


class Ends(Cases):
    def test_turned_and_in_order(self):
        for n in range(1, 8):
            self.answers(tuple(range(n))[::-1], turned, n)
            self.answers(tuple(range(n)), in_order, n)

    def test_wrong_cards(self):
        self.refuses_each(BadCards, turned, [3], 0, WRONG_CARDS)
        self.refuses_each(BadCards, in_order, [3], 0, WRONG_CARDS)


class Runs(Cases):
    def test_all_short_words_and_lots(self):
        for row in all_rows(3):
            for word in all_deed_words(3, 4):
                for lot in all_places(len(word)):
                    self.assertEqual(run(row, word, lot), search_run(row, word, lot))

    def test_rows_of_every_length(self):
        for n in range(1, 8):
            row = tuple(range(n))[::-1]
            word = tuple([k for most in range(n - 1, 0, -1) for k in range(most)])
            self.answers(tuple(range(n)), run, row, word, ())
            self.answers(row, run, row, word, tuple(range(len(word))))
            self.answers(tuple(range(n)), run, tuple(range(n)), word, ())

    def test_a_deed_in_order_does_nothing(self):
        self.answers((0, 2, 1), run, (0, 2, 1), (0, 0), ())
        self.answers((0, 1, 2), run, (0, 2, 1), (1, 1), (0,))

    def test_words_of_0_200_and_201_deeds(self):
        self.answers((2, 1, 0), run, (2, 1, 0), (), ())
        self.answers((0, 1, 2), run, (2, 1, 0), (0, 1) * 100, ())
        self.answers((2, 1, 0), run, (2, 1, 0), (0, 1) * 100, tuple(range(200)))
        self.answers((2, 0, 1), run, (2, 1, 0), (0, 1) * 100, tuple([k for k in range(200) if k != 199]))
        self.refuses(BadWord, run, (2, 1, 0), (0, 1) * 100 + (0,), ())

    def test_deeds_out_of_bounds(self):
        for n in range(1, 8):
            row = tuple(range(n))
            self.refuses(BadWord, run, row, (n - 1,), ())
            self.refuses(BadWord, run, row, (-1,), ())
            if n > 1:
                self.answers(row, run, row, (n - 2, 0), ())

    def test_one_card_has_no_deeds(self):
        self.answers((0,), run, (0,), (), ())
        self.refuses(BadWord, run, (0,), (0,), ())

    def test_wrong_values(self):
        args = [(2, 1, 0), (0, 1, 0, 1, 0), ()]
        self.refuses_each(BadRow, run, args, 0, WRONG_ROWS)
        self.refuses_each(BadWord, run, args, 1, WRONG_WORDS_OF_3)
        self.refuses_each(BadLot, run, args, 2, WRONG_LOTS_OF_5)
        self.refuses(BadLot, run, (2, 1, 0), (), (0,))
        self.refuses(BadWord, run, (1, 0), (0, 1), ())

    def test_order_of_errors(self):
        self.refuses_in_order(run, ((1, 0), ((1, 1), BadRow)), ((0,), ((1,), BadWord)), ((0,), ((1,), BadLot)))


class Pairs(Cases):
    def test_out_pairs(self):
        for n in range(1, 6):
            for row in all_rows(n):
                meant = sorted([(a, b) for at, a in enumerate(row) for b in row[at:] if b < a])
                self.answers(tuple(meant), out_pairs, row)
        self.answers(21, lambda row: len(out_pairs(row)), (6, 5, 4, 3, 2, 1, 0))

    def test_wrong_rows(self):
        self.refuses_each(BadRow, out_pairs, [(0,)], 0, WRONG_ROWS)


class Ways(Cases):
    def test_all_pairs_of_rows(self):
        for n in range(1, 5):
            for row in all_rows(n):
                shortest = search_shortest(row)
                for other in all_rows(n):
                    self.assertIs(can_come(row, other), other in shortest)
                    if other in shortest:
                        self.assertEqual(way(row, other), min(shortest[other]))
                    else:
                        self.refuses(NoWay, way, row, other)

    def test_seven_cards(self):
        row = (6, 5, 4, 3, 2, 1, 0)
        self.answers((0, 1, 0, 2, 1, 0, 3, 2, 1, 0, 4, 3, 2, 1, 0, 5, 4, 3, 2, 1, 0), way, row, row[::-1])
        self.answers(True, can_come, row, row[::-1])
        self.answers(False, can_come, row[::-1], row)

    def test_to_itself(self):
        self.answers((), way, (1, 0, 2), (1, 0, 2))
        self.answers((), way, (0,), (0,))
        self.answers(True, can_come, (1, 0, 2), (1, 0, 2))

    def test_wrong_rows(self):
        for function in (can_come, way, no_less_sorted, stretch):
            self.refuses_each(BadRow, function, [(2, 1, 0), (0, 1, 2)], 0, WRONG_ROWS)
            self.refuses_each(BadRow, function, [(2, 1, 0), (0, 1, 2)], 1, WRONG_GOALS_OF_3)
            self.refuses(BadRow, function, (1, 0), (0, 1, 2))
            self.refuses(BadRow, function, (2, 1, 0), (0, 1))

    def test_no_way_is_the_last_error(self):
        self.refuses(BadRow, way, (0, 1), (0, 0))
        self.refuses(BadRow, way, (0, 0), (1, 0))
        self.refuses(NoWay, way, (0, 1), (1, 0))


class Sortedness(Cases):
    def test_all_pairs_of_rows(self):
        for n in range(1, 5):
            rows = all_rows(n)
            meant = {(row, other): means_no_less_sorted(row, other) for row in rows for other in rows}
            for row in rows:
                for other in rows:
                    self.assertIs(no_less_sorted(row, other), meant[row, other])
                    between = [one for one in rows if meant[one, row] and meant[other, one]]
                    self.assertEqual(stretch(row, other), tuple(between))

    def test_what_the_order_is_for(self):
        # Rows that come of the turned row, whatever fails, are those its end is no less sorted than.
        for word in all_deed_words(3, 4):
            ends = {search_run((2, 1, 0), word, lot) for lot in all_places(len(word))}
            for row in all_rows(3):
                self.assertIs(no_less_sorted(search_run((2, 1, 0), word), row), row in ends)

    def test_empty_and_single_stretches(self):
        self.answers((), stretch, (0, 1, 2), (2, 1, 0))
        self.answers((), stretch, (1, 2, 0), (2, 0, 1))
        self.answers(((1, 2, 0),), stretch, (1, 2, 0), (1, 2, 0))
        self.answers(((0,),), stretch, (0,), (0,))

    def test_seven_cards(self):
        every = stretch((6, 5, 4, 3, 2, 1, 0), (0, 1, 2, 3, 4, 5, 6))
        self.assertEqual(every, tuple(all_rows(7)))
        self.answers(True, no_less_sorted, (0, 1, 2, 3, 4, 5, 6), (6, 5, 4, 3, 2, 1, 0))


if __name__ == "__main__":
    unittest.main()
