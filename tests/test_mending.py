"""Point 44: words and deeds that mend a word of which a lot has failed."""

import random
import unittest
from itertools import product

from helpers import (
    Cases, WRONG_LOTS_OF_5, all_deed_words, all_places, all_rows, exactly, means_no_less_sorted, search_run,
    search_tasks, turned_row,
)
from sturdysort.errors import BadCards, BadGoal, BadLot, BadWord, TooLong
from sturdysort.lots import is_harmless
from sturdysort.mending import mending, spots
from sturdysort.words import lacking

WORD = (0, 1, 0, 1, 0)
SORTED = (0, 1, 2)
FUNCTIONS = {mending: [3, WORD, SORTED, ()], spots: [3, WORD, SORTED, ()]}


def left_of(word, lot):
    return tuple([deed for place, deed in enumerate(word) if place not in lot])


class Tables:
    """For rows and goals of few cards the least word that makes a row reach a goal, of all words by their lengths."""

    def __init__(self, n):
        self.found = {}
        for row in all_rows(n):
            for length in range(n * (n - 1) // 2 + 1):
                for word in product(range(n - 1), repeat=length):
                    self.look_at(row, search_run(row, word), word)

    def look_at(self, row, later, word):
        self.found.setdefault((row, later), word)

    def least(self, row, goal):
        words = [word for (start, later), word in self.found.items()
                 if start == row and means_no_less_sorted(later, goal)]
        return min(words, key=lambda word: (len(word), word))


class Mending(Cases):
    def test_all_words_of_few_cards(self):
        for n, longest in ((1, 0), (2, 3), (3, 4)):
            tables = Tables(n)
            meant = {(row, goal): tables.least(row, goal) for row in all_rows(n) for goal in all_rows(n)}
            for word in all_deed_words(n, longest):
                for lot in all_places(len(word)):
                    row = search_run(turned_row(n), word, lot)
                    for goal in all_rows(n):
                        told = mending(n, word, goal, lot)
                        self.assertEqual(exactly(told), exactly(meant[row, goal]))

    def test_four_cards(self):
        source = random.Random(44)
        words = all_deed_words(4, 6)
        for _ in range(120):
            word = tuple([source.randrange(3) for _ in range(source.randrange(9))])
            lot = tuple(sorted(source.sample(range(len(word)), source.randrange(len(word) + 1))))
            goal = source.choice(all_rows(4) + [(0, 1, 2, 3)] * 10)
            row = search_run(turned_row(4), word, lot)
            # Shorter words stand first, each length ascending.
            meant = next(one for one in words if means_no_less_sorted(search_run(row, one), goal))
            self.assertEqual(exactly(mending(4, word, goal, lot)), exactly(meant))

    def test_empty_exactly_for_harmless_lots(self):
        for n, word, goal in search_tasks(45)[::5]:
            for lot in all_places(len(word))[::3]:
                self.assertIs(mending(n, word, goal, lot) == (), is_harmless(n, word, goal, lot))

    def test_to_the_sorted_row_it_is_what_is_lacking(self):
        source = random.Random(46)
        for n in (5, 6, 7, 7):
            for _ in range(3):
                word = tuple([source.randrange(n - 1) for _ in range(40)])
                lot = tuple(sorted(source.sample(range(40), 20)))
                meant = lacking(n, left_of(word, lot))
                self.answers(meant, mending, n, word, tuple(range(n)), lot)

    def test_more_cards(self):
        source = random.Random(47)
        for n in (5, 5, 6, 7):
            for _ in range(3):
                word = tuple([source.randrange(n - 1) for _ in range(20)])
                goal = search_run(turned_row(n), word)
                lot = tuple(sorted(source.sample(range(20), 4)))
                self.look_at(n, word, goal, lot)

    def look_at(self, n, word, goal, lot):
        told = mending(n, word, goal, lot)
        row = search_run(turned_row(n), word, lot)
        self.assertTrue(means_no_less_sorted(search_run(row, told), goal))
        self.assertLessEqual(len(told), 4)
        for length in range(len(told) + 1):
            for one in product(range(n - 1), repeat=length):
                if one == told:
                    return
                self.assertFalse(means_no_less_sorted(search_run(row, one), goal))

    def test_edges(self):
        self.answers((), mending, 1, (), (0,), ())
        self.answers((), mending, 3, (), (2, 1, 0), ())
        self.answers((0, 1, 0), mending, 3, (), SORTED, ())
        self.answers((0, 1, 0), mending, 3, WORD, SORTED, (0, 1, 2, 3, 4))
        self.answers((), mending, 3, WORD, SORTED, (2,))
        self.answers((1,), mending, 3, (0, 1, 0), SORTED, (0,))
        self.answers((1, 0), mending, 3, (0, 1, 0), SORTED, (0, 1))
        self.answers((0,), mending, 2, (0,) * 40, (0, 1), tuple(range(40)))
        self.answers((), mending, 2, (0,) * 40, (0, 1), tuple(range(39)))
        self.answers((0, 1, 0, 2, 1, 0, 3, 2, 1, 0, 4, 3, 2, 1, 0, 5, 4, 3, 2, 1, 0),
                     mending, 7, (0, 1, 2, 3, 4, 5) * 6, tuple(range(7)), tuple(range(36)))

    def test_words_that_do_not_reach_the_goal(self):
        self.answers((0,), mending, 3, (0, 1), SORTED, ())
        self.answers((0, 2), mending, 4, (), (2, 3, 0, 1), ())
        self.answers((1,), mending, 4, (0, 2), (2, 0, 3, 1), ())


class Spots(Cases):
    def meant(self, n, word, goal, lot):
        """Point 44's words."""
        found = []
        for place in range(len(word) + 1):
            for deed in range(n - 1):
                row = search_run(turned_row(n), [one for at, one in enumerate(word[:place]) if at not in lot])
                row = search_run(row, (deed,))
                rest = [word[at] for at in range(place, len(word)) if at not in lot]
                if means_no_less_sorted(search_run(row, rest), goal):
                    found.append((place, deed))
        return tuple(found)

    def test_all_places_and_deeds(self):
        for n, longest in ((1, 0), (2, 3), (3, 4)):
            for word in all_deed_words(n, longest):
                for lot in all_places(len(word)):
                    for goal in all_rows(n):
                        self.look_at(n, word, goal, lot)

    def test_longer_words(self):
        source = random.Random(48)
        many = 0
        for n, word, goal in search_tasks(48)[-80:]:
            for lot in source.sample(all_places(len(word)), min(12, 2 ** len(word))):
                many += len(self.look_at(n, word, goal, lot))
        self.assertGreater(many, 100)

    def look_at(self, n, word, goal, lot):
        row = search_run(turned_row(n), word, lot)
        meant = () if means_no_less_sorted(row, goal) else self.meant(n, word, goal, lot)
        self.assertEqual(exactly(spots(n, word, goal, lot)), exactly(meant))
        return meant

    def test_edges(self):
        self.answers((), spots, 1, (), (0,), ())
        self.answers((), spots, 3, (), (2, 1, 0), ())
        self.answers((), spots, 3, WORD, SORTED, ())
        self.answers((), spots, 3, WORD, SORTED, (2,))
        self.answers((), spots, 3, (0, 1, 0), SORTED, (0, 1))
        self.answers((), spots, 3, (), SORTED, ())
        self.answers(((0, 0),), spots, 2, (), (0, 1), ())
        self.answers(((0, 0), (1, 0), (3, 1)), spots, 3, (0, 1, 0), SORTED, (0,))
        self.answers(tuple([(place, 0) for place in range(41)]), spots, 2, (0,) * 40, (0, 1), tuple(range(40)))

    def test_40_deeds(self):
        source = random.Random(49)
        word = ((0, 1, 2, 3, 4, 5) * 7)[:40]
        many = 0
        for _ in range(12):
            lot = tuple(sorted(source.sample(range(40), source.choice([6, 9, 12]))))
            many += len(self.look_at(7, word, tuple(range(7)), lot))
        self.assertGreater(many, 10)

    def test_a_deed_behind_all_is_a_mending_of_one_deed(self):
        for n, word, goal in search_tasks(50)[::7]:
            for lot in all_places(len(word))[::5]:
                behind = [deed for place, deed in spots(n, word, goal, lot) if place == len(word)]
                told = mending(n, word, goal, lot)
                self.assertEqual(told if len(told) == 1 else (), tuple(behind[:1]))


class WrongValues(Cases):
    def test_each_parameter(self):
        for function, args in FUNCTIONS.items():
            self.refuses_wrong_tasks(function, args)
            self.refuses_each(BadLot, function, args, 3, WRONG_LOTS_OF_5)

    def test_order(self):
        task = [(3, (0, BadCards)), (WORD, ((2,), BadWord), ((0,) * 41, TooLong)), (SORTED, ((0, 1), BadGoal)),
                ((0,), ((1, 0), BadLot), ([0], BadLot))]
        for function in FUNCTIONS:
            self.refuses_in_order(function, *task)


if __name__ == "__main__":
    unittest.main()
