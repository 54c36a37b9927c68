"""Points 12, 13 and 14: harmless lots, the greatest of them in their order, and how often places fail."""

import random
import unittest

from helpers import (
    Cases, WRONG_CARDS, WRONG_GOALS_OF_3, WRONG_INTEGERS, WRONG_LOTS_OF_5, WRONG_WORDS_OF_3, all_deed_words, all_places,
    all_rows, search_greatest, search_harmless, search_run, search_shortest,
)
from sturdysort.errors import BadCards, BadGoal, BadLot, BadNumber, BadWord, NotGreatest, TooLong, TooMany
from sturdysort.lots import count_lots, fail_counts, greatest_lots, idle, is_harmless, lot_at, number_of, vital

WORD = (0, 1, 0, 1, 0)
SORTED = (0, 1, 2)
FUNCTIONS = {
    is_harmless: [3, WORD, SORTED, ()], count_lots: [3, WORD, SORTED], greatest_lots: [3, WORD, SORTED],
    lot_at: [3, WORD, SORTED, 0], number_of: [3, WORD, SORTED, (3, 4)], fail_counts: [3, WORD, SORTED],
    idle: [3, WORD, SORTED], vital: [3, WORD, SORTED],
}


def tasks():
    """Words and goals to be searched through."""
    found = []
    for n, longest in ((1, 1), (2, 4), (3, 5), (4, 3)):
        found += [(n, word, goal) for word in all_deed_words(n, longest) for goal in all_rows(n)]
    source = random.Random(4)
    for _ in range(25):
        word = tuple([source.randrange(3) for _ in range(8)])
        goals = source.sample(all_rows(4), 2) + [(0, 1, 2, 3), search_run((3, 2, 1, 0), word)]
        found += [(4, word, goal) for goal in goals]
    return found


class BySearch(Cases):
    def test_all_lots(self):
        shortest = {n: search_shortest(tuple(range(n))[::-1]) for n in range(1, 5)}
        for n, word, goal in tasks():
            harmless = search_harmless(n, word, goal)
            lots = all_places(len(word))
            self.assertEqual([lot for lot in lots if is_harmless(n, word, goal, lot)], harmless)
            greatest = search_greatest(n, word, goal)
            self.look_at_order(n, word, goal, greatest)
            self.look_at_counts(n, word, goal, greatest)
            for lot in lots:
                left = tuple([deed for place, deed in enumerate(word) if place not in lot])
                self.assertIs(lot in greatest, left in shortest[n][goal])
                if lot not in greatest:
                    self.refuses(NotGreatest, number_of, n, word, goal, lot)

    def look_at_order(self, n, word, goal, greatest):
        self.assertEqual(greatest_lots(n, word, goal), tuple(greatest))
        self.assertEqual(count_lots(n, word, goal), len(greatest))
        for number, lot in enumerate(greatest):
            self.assertEqual(lot_at(n, word, goal, number), lot)
            self.assertEqual(number_of(n, word, goal, lot), number)
        self.refuses(BadNumber, lot_at, n, word, goal, len(greatest))
        self.refuses(BadNumber, lot_at, n, word, goal, -1)

    def look_at_counts(self, n, word, goal, greatest):
        counts = tuple([len([lot for lot in greatest if place in lot]) for place in range(len(word))])
        self.assertEqual(fail_counts(n, word, goal), counts)
        in_all = [place for place in range(len(word)) if greatest and counts[place] == len(greatest)]
        in_none = [place for place in range(len(word)) if greatest and counts[place] == 0]
        self.assertEqual((idle(n, word, goal), vital(n, word, goal)), (tuple(in_all), tuple(in_none)))


class Edges(Cases):
    def test_a_goal_that_is_not_reached(self):
        args = [3, (0, 1), SORTED]
        self.answers(0, count_lots, *args)
        self.answers((), greatest_lots, *args)
        self.answers((0, 0), fail_counts, *args)
        self.answers((), idle, *args)
        self.answers((), vital, *args)
        self.answers(False, is_harmless, *args, ())
        self.refuses(BadNumber, lot_at, *args, 0)
        self.refuses(NotGreatest, number_of, *args, ())

    def test_the_empty_word(self):
        self.answers(((),), greatest_lots, 3, (), (2, 1, 0))
        self.answers((), greatest_lots, 3, (), (1, 2, 0))
        self.answers((), lot_at, 3, (), (2, 1, 0), 0)
        self.answers(0, number_of, 3, (), (2, 1, 0), ())
        self.answers(True, is_harmless, 3, (), (2, 1, 0), ())
        self.answers((), fail_counts, 3, (), (2, 1, 0))
        self.answers((), idle, 3, (), (2, 1, 0))
        self.answers((), vital, 3, (), (2, 1, 0))

    def test_one_card(self):
        self.answers(1, count_lots, 1, (), (0,))
        self.answers(((),), greatest_lots, 1, (), (0,))
        self.refuses(BadWord, count_lots, 1, (0,), (0,))

    def test_a_goal_that_the_word_goes_beyond(self):
        self.answers(((0, 1, 2),), greatest_lots, 3, (0, 1, 0), (2, 1, 0))
        self.answers((0, 1, 2), idle, 3, (0, 1, 0), (2, 1, 0))
        self.answers(((1, 2), (0, 1)), greatest_lots, 3, (0, 1, 0), (1, 2, 0))
        self.answers((1,), idle, 3, (0, 1, 0), (1, 2, 0))
        self.answers((), vital, 3, (0, 1, 0), (1, 2, 0))
        self.answers((1,), vital, 3, (0, 1, 0), (2, 0, 1))
        self.answers((0, 2), idle, 3, (0, 1, 0), (2, 0, 1))

    def test_40_and_41_deeds(self):
        word = (0,) * 40
        self.answers(40, count_lots, 2, word, (0, 1))
        self.answers(tuple([place for place in range(40) if place != 7]), lot_at, 2, word, (0, 1), 7)
        self.answers((39,) * 40, fail_counts, 2, word, (0, 1))
        self.answers(tuple(range(40)), idle, 2, word, (1, 0))
        for function, args in FUNCTIONS.items():
            self.refuses(TooLong, function, 2, (0,) * 41, *args[2:], most=40)
            self.refuses(TooLong, function, 2, (0,) * 200, *args[2:], most=40)
            self.refuses(BadWord, function, 2, (0,) * 201, *args[2:])

    def test_3000_and_3001_lots(self):
        # The one shortest word to this goal is 0, 1, 2, 3.
        goal = search_run((4, 3, 2, 1, 0), (0, 1, 2, 3))
        word = (0,) * 10 + (1,) * 10 + (2,) * 6 + (3,) * 5
        lots = greatest_lots(5, word, goal)
        self.assertEqual((len(lots), len(set(lots))), (3000, 3000))
        self.assertEqual(len(greatest_lots(5, (3, 2, *word, 0), goal)), 3000)
        word = (0,) * 7 + (1, 0, 1, 1, 2) + (1,) * 6 + (2,) * 5 + (3, 3, 2, 3, 3, 3, 3, 0, 3)
        self.answers(3001, count_lots, 5, word, goal)
        self.refuses(TooMany, greatest_lots, 5, word, goal, most=3000)
        self.assertEqual(number_of(5, word, goal, lot_at(5, word, goal, 3000)), 3000)

    def test_lots_that_multiply(self):
        self.answers(400, count_lots, 4, (0,) * 20 + (2,) * 20, (2, 3, 0, 1))
        self.answers(300, count_lots, 4, (0,) * 15 + (2,) * 20 + (1,), (2, 3, 0, 1))

    def test_seven_cards(self):
        word = (0, 1, 2, 3, 4, 5) * 6 + (0, 1, 2, 3)
        goal = tuple(range(7))
        many = count_lots(7, word, goal)
        self.assertGreater(many, 3000)
        for number in (0, 1, many // 3, many - 1):
            lot = lot_at(7, word, goal, number)
            self.assertEqual(len(lot), 40 - 21)
            self.assertEqual(search_run(goal[::-1], word, lot), goal)
            self.answers(number, number_of, 7, word, goal, lot)
        self.refuses(BadNumber, lot_at, 7, word, goal, many)
        self.assertEqual(sum(fail_counts(7, word, goal)), many * 19)


class WrongValues(Cases):
    def test_each_parameter(self):
        for function, args in FUNCTIONS.items():
            self.refuses_each(BadCards, function, args, 0, WRONG_CARDS)
            self.refuses_each(BadWord, function, args, 1, WRONG_WORDS_OF_3)
            self.refuses_each(BadGoal, function, args, 2, WRONG_GOALS_OF_3)
        for function in (is_harmless, number_of):
            self.refuses_each(BadLot, function, FUNCTIONS[function], 3, WRONG_LOTS_OF_5)
        self.refuses_each(BadNumber, lot_at, FUNCTIONS[lot_at], 3, WRONG_INTEGERS + [-1, 5, 6])

    def test_order(self):
        task = [(3, (0, BadCards)), (WORD, ((2,), BadWord), ((0,) * 41, TooLong)), (SORTED, ((0, 1), BadGoal))]
        for function in (count_lots, greatest_lots, fail_counts, idle, vital):
            self.refuses_in_order(function, *task)
        self.refuses_in_order(is_harmless, *task, ((), ((5,), BadLot)))
        self.refuses_in_order(lot_at, *task, (0, (5, BadNumber)))
        self.refuses_in_order(number_of, *task, ((0, 1), ((1, 0), BadLot), ((0,), NotGreatest)))

    def test_too_many_is_the_last_error(self):
        word = (0, 1, 2) * 13
        self.refuses(BadGoal, greatest_lots, 4, word, (0, 1))
        self.refuses(TooMany, greatest_lots, 4, word, (0, 1, 2, 3), most=3000)

    def test_a_lot_that_is_not_greatest(self):
        for lot in ((), (0,), (0, 2), (0, 1, 2), (0, 1, 2, 3, 4)):
            self.refuses(NotGreatest, number_of, 3, WORD, SORTED, lot)
            self.assertIs(is_harmless(3, WORD, SORTED, lot), lot in ((), (0,)))


if __name__ == "__main__":
    unittest.main()
