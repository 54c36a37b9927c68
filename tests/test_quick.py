"""Point 35: the fewest rounds that do the same as a word."""

import random
import unittest
from itertools import combinations

from helpers import (
    Cases, WRONG_CARDS, WRONG_WORDS_OF_3, all_deed_words, all_rows, exactly, search_run, search_shortest, turned_row,
)
from sturdysort.compiling import rounds
from sturdysort.errors import BadCards, BadWord
from sturdysort.quick import quickest
from sturdysort.words import all_words, least_word


def all_rounds(n):
    """The ascending list of all rounds of n cards."""
    deeds = range(n - 1)
    found = [some for many in range(1, n) for some in combinations(deeds, many)
             if all(later - one >= 2 for one, later in zip(some, some[1:]))]
    return sorted(found)


def behind_round(row, some):
    """The row behind a round; None if one of its deeds doesn't exchange two cards."""
    for deed in some:
        if row[deed] < row[deed + 1]:
            return None
        row = search_run(row, (deed,))
    return row


def search_quickest(n):
    """For each row the list of all tuples of the fewest rounds that lead the turned row there, ascending."""
    found = {turned_row(n): [()]}
    level = [((), turned_row(n))]
    while len(found) < len(all_rows(n)):
        level = [((*way, some), behind_round(row, some)) for way, row in level for some in all_rounds(n)
                 if behind_round(row, some) is not None]
        fresh = {}
        for way, row in level:
            if row not in found:
                fresh.setdefault(row, []).append(way)
        found.update(fresh)
    return found


def word_to(n, row):
    """Some word that leads the turned row to a row: cards are put to their places one behind another."""
    word, now = [], list(turned_row(n))
    for place, card in enumerate(row):
        for at in range(now.index(card), place, -1):
            now[at - 1], now[at] = now[at], now[at - 1]
            word.append(at - 1)
    return tuple(word)


class BySearch(Cases):
    def test_all_tuples_of_rounds(self):
        for n in range(1, 5):
            meant = search_quickest(n)
            for row in all_rows(n):
                self.assertEqual(meant[row], sorted(meant[row]))
                self.answers(meant[row][0], quickest, n, word_to(n, row))

    def test_all_short_words(self):
        for n, longest in ((1, 0), (2, 4), (3, 5), (4, 5)):
            meant = search_quickest(n)
            for word in all_deed_words(n, longest):
                ways = meant[search_run(turned_row(n), word)]
                self.assertEqual(exactly(quickest(n, word)), exactly(ways[0]))

    def test_five_cards(self):
        source = random.Random(35)
        for _ in range(12):
            word = tuple([source.randrange(4) for _ in range(source.randrange(2, 9))])
            goal = search_run(turned_row(5), word)
            words = search_shortest(turned_row(5))[goal]
            self.assertEqual(quickest(5, word), self.least_by_words(words))

    def least_by_words(self, words):
        """Of all ways to cut shortest words into rounds that ascend one with the fewest, then the least one."""
        ways = [way for word in words for way in self.cuts(word)]
        fewest = min([len(way) for way in ways])
        return min([way for way in ways if len(way) == fewest])

    def cuts(self, word):
        found = [()]
        for deed in word:
            grown = [(*way, (deed,)) for way in found]
            grown += [(*way[:-1], (*way[-1], deed)) for way in found if way and deed - way[-1][-1] >= 2]
            found = grown
        return found


class Meaning(Cases):
    def look_at(self, n, word):
        told = quickest(n, word)
        row = turned_row(n)
        for some in told:
            self.assertIsInstance(some, tuple)
            self.assertTrue(some)
            self.assertTrue(all(later - one >= 2 for one, later in zip(some, some[1:])))
            row = behind_round(row, some)
            self.assertIsNotNone(row)
        self.assertEqual(row, search_run(turned_row(n), word))
        return told

    def test_long_words_of_many_cards(self):
        source = random.Random(36)
        for n in (5, 6, 7, 7, 7):
            for length in (3, 8, 15, 40, 200):
                word = tuple([source.randrange(n - 1) for _ in range(length)])
                told = self.look_at(n, word)
                self.assertLessEqual(len(told), len(rounds(n, least_word(n, word))))

    def test_as_few_as_any_shortest_word_laid_side_by_side(self):
        source = random.Random(37)
        for _ in range(10):
            word = tuple([source.randrange(4) for _ in range(9)])
            goal = search_run(turned_row(5), word)
            fewest = min([len(rounds(5, one)) for one in all_words(goal)])
            self.assertEqual(len(self.look_at(5, word)), fewest)

    def test_words_that_sort_every_row(self):
        for n in range(3, 8):
            word = tuple(range(n - 1)) * (n - 1)
            told = self.look_at(n, word)
            self.assertEqual(len(told), n)
        self.answers(((0, 2, 4), (1, 3, 5)) * 3 + ((0, 2, 4),), quickest, 7, (0, 1, 2, 3, 4, 5) * 33)
        self.answers(((0, 2), (1,), (0, 2), (1,)), quickest, 4, (0, 1, 2) * 66)
        self.answers(((0,), (1,), (0,)), quickest, 3, (1, 0, 1))

    def test_no_deeds_and_one_card(self):
        for n in range(1, 8):
            self.answers((), quickest, n, ())
        self.answers(((0,),), quickest, 2, (0,) * 200)
        self.answers(((5,),), quickest, 7, (5,) * 200)

    def test_the_least_one(self):
        self.answers(((0, 2),), quickest, 4, (2, 0))
        self.answers(((0, 3, 5),), quickest, 7, (5, 3, 0, 3, 5))
        # A round that is the beginning of another one is less: so deeds come late where they may.
        self.answers(((0,), (1, 3)), quickest, 5, (0, 1, 3))
        self.answers(((0,), (1, 5)), quickest, 7, (5, 0, 1))
        self.answers(((1,), (0, 3)), quickest, 5, (3, 1, 0))


class WrongValues(Cases):
    def test_each_parameter(self):
        self.refuses_each(BadCards, quickest, [3, (0, 1)], 0, WRONG_CARDS)
        self.refuses_each(BadWord, quickest, [3, (0, 1)], 1, WRONG_WORDS_OF_3)
        self.refuses(BadWord, quickest, 1, (0,))
        self.refuses(BadWord, quickest, 7, (6,))

    def test_order(self):
        self.refuses_in_order(quickest, (3, (0, BadCards), (True, BadCards)), ((0,), ((2,), BadWord), ([0], BadWord)))


if __name__ == "__main__":
    unittest.main()
