"""Points 9, 10 and 11: what words do to every row, and the shortest words that do the same."""

import random
import unittest
from itertools import combinations

from helpers import (
    Cases, WRONG_CARDS, WRONG_GOALS_OF_3, WRONG_ROWS, WRONG_WORDS_OF_3, all_deed_words, all_rows, means_no_less_sorted,
    search_run, search_shortest,
)
from sturdysort.errors import BadCards, BadGoal, BadRow, BadWord, TooMany
from sturdysort.lots import count_lots, lot_at
from sturdysort.words import all_words, are_alike, count_words, end, lacking, least_word, scattered, sorts_all

WORDS = [(1, word) for word in all_deed_words(1, 2)] + [(2, word) for word in all_deed_words(2, 3)] + \
    [(3, word) for word in all_deed_words(3, 5)] + [(4, word) for word in all_deed_words(4, 4)]


def turned(n):
    return tuple(range(n))[::-1]


def all_ends(n, word):
    """Where the word leads each row."""
    return [search_run(row, word) for row in all_rows(n)]


class Ends(Cases):
    def test_a_run_of_every_row(self):
        for n, word in WORDS:
            self.assertEqual(end(n, word), search_run(turned(n), word))
            self.assertIs(sorts_all(n, word), all(row == tuple(range(n)) for row in all_ends(n, word)))

    def test_alike(self):
        for n, longest in ((2, 3), (3, 4), (4, 3)):
            words = all_deed_words(n, longest)
            ends = [all_ends(n, word) for word in words]
            for one, its_ends in zip(words, ends):
                for other, other_ends in zip(words, ends):
                    self.assertIs(are_alike(n, one, other), its_ends == other_ends)

    def test_long_words(self):
        self.answers((0, 1, 2, 3, 4, 5, 6), end, 7, (0, 1, 2, 3, 4, 5) * 33 + (0, 1))
        self.answers(True, sorts_all, 7, (5, 4, 3, 2, 1, 0) * 33)
        self.answers(True, are_alike, 7, (5, 4, 3, 2, 1, 0) * 33, (0, 1, 2, 3, 4, 5) * 33)
        self.answers(False, are_alike, 3, (0,) * 200, (1,) * 200)
        self.answers(True, are_alike, 3, (0,) * 200, (0,))

    def test_one_card_and_no_deeds(self):
        self.answers((0,), end, 1, ())
        self.answers(True, sorts_all, 1, ())
        self.answers(False, sorts_all, 2, ())
        self.answers(True, are_alike, 1, (), ())

    def test_wrong_values(self):
        for function in (end, sorts_all, least_word, lacking):
            self.refuses_each(BadCards, function, [3, (0, 1)], 0, WRONG_CARDS)
            self.refuses_each(BadWord, function, [3, (0, 1)], 1, WRONG_WORDS_OF_3)
            self.refuses_in_order(function, (3, (0, BadCards)), ((0,), ((2,), BadWord)))
        self.refuses_each(BadCards, are_alike, [3, (0, 1), (1, 0)], 0, WRONG_CARDS)
        self.refuses_each(BadWord, are_alike, [3, (0, 1), (1, 0)], 1, WRONG_WORDS_OF_3)
        self.refuses_each(BadWord, are_alike, [3, (0, 1), (1, 0)], 2, WRONG_WORDS_OF_3)
        self.refuses_in_order(are_alike, (3, (8, BadCards)), ((0,), ((2,), BadWord)), ((1,), ([1], BadWord)))


class ShortestWords(Cases):
    def test_least_word_and_lacking_by_search(self):
        for n, longest in ((1, 0), (2, 2), (3, 3)):
            # Shorter words first, each length ascending: the first one found is the one asked for.
            candidates = [(word, all_ends(n, word)) for word in all_deed_words(n, longest)]
            for word in [word for cards, word in WORDS if cards == n]:
                ends = all_ends(n, word)
                meant = next(one for one, its_ends in candidates if its_ends == ends)
                self.answers(meant, least_word, n, word)
                meant = next(one for one, _ in candidates
                             if all(search_run(row, one) == tuple(range(n)) for row in ends))
                self.answers(meant, lacking, n, word)

    def test_four_cards(self):
        from_turned = search_shortest(turned(4))
        to_sorted = {row: search_shortest(row)[0, 1, 2, 3] for row in all_rows(4)}
        for word in all_deed_words(4, 5):
            row = search_run(turned(4), word)
            self.assertEqual(least_word(4, word), min(from_turned[row]))
            self.assertEqual(lacking(4, word), min(to_sorted[row]))

    def test_counts(self):
        for n in range(1, 5):
            shortest = search_shortest(turned(n))
            for row in all_rows(n):
                self.assertEqual(count_words(row), len(shortest[row]))
                self.assertEqual(all_words(row), tuple(sorted(shortest[row])))

    def test_many_cards(self):
        # The numbers of standard staircase tableaux.
        self.answers(768, count_words, (0, 1, 2, 3, 4))
        self.answers(292864, count_words, (0, 1, 2, 3, 4, 5))
        self.answers(1100742656, count_words, (0, 1, 2, 3, 4, 5, 6))
        self.answers(1, count_words, (6, 5, 4, 3, 2, 1, 0))
        self.answers(((),), all_words, (6, 5, 4, 3, 2, 1, 0))
        self.answers(((),), all_words, (0,))

    def test_all_words_of_five_cards(self):
        words = all_words((0, 1, 2, 3, 4))
        self.assertEqual(list(words), sorted(set(words)))
        self.assertEqual(len(words), 768)
        for word in words:
            self.assertEqual((len(word), search_run(turned(5), word)), (10, (0, 1, 2, 3, 4)))

    def test_5000_words(self):
        self.refuses(TooMany, all_words, (0, 1, 2, 3, 4, 5), most=5000)
        self.refuses(TooMany, all_words, (0, 1, 2, 3, 4, 5, 6), most=5000)
        counts = [(count_words(row), row) for row in all_rows(6)]
        many, row = max([pair for pair in counts if pair[0] <= 5000])
        self.assertEqual(len(all_words(row)), many)
        self.refuses(TooMany, all_words, min([pair for pair in counts if pair[0] > 5000])[1], most=5000)

    def test_wrong_rows(self):
        for function in (count_words, all_words):
            self.refuses_each(BadRow, function, [(0, 1)], 0, WRONG_ROWS)


def meant_scattered(n, word, goal, length):
    """Point 11's words; length is that of the shortest words to the goal."""
    for places in combinations(range(len(word)), length):
        if search_run(turned(n), tuple([word[place] for place in places])) == goal:
            return places
    return None


class Scattered(Cases):
    def test_all_tuples_of_places(self):
        for n, longest in ((1, 1), (2, 4), (3, 6), (4, 5)):
            shortest = search_shortest(turned(n))
            for word in all_deed_words(n, longest):
                for goal in all_rows(n):
                    meant = meant_scattered(n, word, goal, len(shortest[goal][0]))
                    self.assertEqual(scattered(n, word, goal), meant)
                    self.assertIs(meant is not None, means_no_less_sorted(search_run(turned(n), word), goal))

    def test_random_words_of_four_cards(self):
        source = random.Random(2)
        shortest = search_shortest(turned(4))
        for _ in range(60):
            word = tuple([source.randrange(3) for _ in range(9)])
            for goal in all_rows(4):
                self.assertEqual(scattered(4, word, goal), meant_scattered(4, word, goal, len(shortest[goal][0])))

    def test_it_is_what_the_first_greatest_lot_leaves(self):
        source = random.Random(9)
        for _ in range(60):
            n = source.randrange(3, 8)
            word = tuple([source.randrange(n - 1) for _ in range(40)])
            for goal in (tuple(range(n)), search_run(turned(n), word), search_run(turned(n), word[::3])):
                places = scattered(n, word, goal)
                if places is None:
                    self.assertEqual(count_lots(n, word, goal), 0)
                else:
                    failing = tuple([place for place in range(40) if place not in places])
                    self.assertEqual(lot_at(n, word, goal, 0), failing)

    def test_long_words(self):
        word = (5,) * 100 + (0, 1, 2, 3, 4, 5) * 16
        places = scattered(7, word, (0, 1, 2, 3, 4, 5, 6))
        self.assertEqual(len(places), 21)
        self.assertEqual(search_run(turned(7), [word[place] for place in places]), (0, 1, 2, 3, 4, 5, 6))
        self.answers((), scattered, 7, word, turned(7))
        self.answers((0,), scattered, 3, (0,) * 200, (1, 2, 0))
        self.answers(None, scattered, 3, (0,) * 200, (2, 0, 1))

    def test_one_card_and_no_deeds(self):
        self.answers((), scattered, 1, (), (0,))
        self.answers((), scattered, 3, (), (2, 1, 0))
        self.answers(None, scattered, 3, (), (1, 2, 0))

    def test_wrong_values(self):
        args = [3, (0, 1, 0), (0, 1, 2)]
        self.refuses_each(BadCards, scattered, args, 0, WRONG_CARDS)
        self.refuses_each(BadWord, scattered, args, 1, WRONG_WORDS_OF_3)
        self.refuses_each(BadGoal, scattered, args, 2, WRONG_GOALS_OF_3)
        self.refuses_in_order(scattered, (3, (0, BadCards)), ((0,), ((2,), BadWord)), ((1, 2, 0), ((1, 0), BadGoal)))


if __name__ == "__main__":
    unittest.main()
