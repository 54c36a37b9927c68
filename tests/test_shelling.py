"""Points 19 and 20: a row of all harmless lots, and the numbers of lots of each size."""

import unittest

from helpers import (
    Cases, WORD_OF_3000, WORD_OF_3001, WRONG_LOTS_OF_5, all_places, search_greatest, search_harmless, search_run,
    search_tasks, turned_row,
)
from sturdysort.errors import BadCards, BadGoal, BadLot, BadWord, Harms, NotGreatest, TooLong, TooMany
from sturdysort.lots import count_lots, lot_at
from sturdysort.shelling import above, f_numbers, fixed, h_numbers, is_sphere, stretch_of

WORD = (0, 1, 0, 1, 0)
SORTED = (0, 1, 2)
TASK = [(3, (0, BadCards)), (WORD, ((2,), BadWord), ((0,) * 41, TooLong)), (SORTED, ((0, 1), BadGoal))]
FUNCTIONS = {
    fixed: [3, WORD, SORTED, (0, 1)], stretch_of: [3, WORD, SORTED, (1,)], above: [3, WORD, SORTED, (1,)],
    h_numbers: [3, WORD, SORTED], f_numbers: [3, WORD, SORTED], is_sphere: [3, WORD, SORTED],
}


def meant_fixed(greatest, lot):
    """Point 19's words: the places whose exchange leads to a lot ahead."""
    ahead = greatest[:greatest.index(lot)]
    lost = [set(lot) - set(other) for other in ahead]
    return tuple([place for place in lot if {place} in lost])


class BySearch(Cases):
    def test_all_lots(self):
        for n, word, goal in search_tasks(19):
            harmless = search_harmless(n, word, goal)
            greatest = search_greatest(n, word, goal)
            lows = {lot: meant_fixed(greatest, lot) for lot in greatest}
            for lot in greatest:
                self.assertEqual(fixed(n, word, goal, lot), lows[lot])
            self.look_at_stretches(n, word, goal, harmless, lows)
            self.look_at_numbers(n, word, goal, harmless, lows)
            for lot in all_places(len(word)):
                if lot not in greatest:
                    self.refuses(NotGreatest, fixed, n, word, goal, lot)
                if lot not in harmless:
                    self.refuses(Harms, stretch_of, n, word, goal, lot)
                    self.refuses(Harms, above, n, word, goal, lot)

    def look_at_stretches(self, n, word, goal, harmless, lows):
        reached = search_run(turned_row(n), word)
        for lot in harmless:
            whole = tuple([one for one in lows if set(lot) <= set(one)])
            within = [one for one in whole if set(lows[one]) <= set(lot)]
            self.assertEqual(within, [whole[0]])
            self.assertEqual(stretch_of(n, word, goal, lot), whole[0])
            self.assertEqual(above(n, word, goal, lot), whole)
            if len(lot) == len(whole[0]) - 1:
                self.assertIn(len(whole), (2,) if reached == goal else (1, 2))

    def look_at_numbers(self, n, word, goal, harmless, lows):
        sizes = [len(low) for low in lows.values()]
        most = max([len(lot) for lot in lows], default=-1)
        counts = tuple([sizes.count(k) for k in range(most + 1)])
        self.assertEqual(h_numbers(n, word, goal), counts)
        lengths = [len(lot) for lot in harmless]
        self.assertEqual(f_numbers(n, word, goal), tuple([lengths.count(k) for k in range(most + 1)]))
        sphere = search_run(turned_row(n), word) == goal
        self.assertIs(is_sphere(n, word, goal), sphere)
        if sphere:
            self.assertEqual(counts, counts[::-1])


class Edges(Cases):
    def test_words_that_do_not_reach_the_goal(self):
        for n, word, goal in ((3, (0, 1), SORTED), (3, (), SORTED), (2, (), (0, 1)), (4, (0, 1, 0), (2, 3, 0, 1))):
            self.answers((), h_numbers, n, word, goal)
            self.answers((), f_numbers, n, word, goal)
            self.answers(False, is_sphere, n, word, goal)
            self.refuses(Harms, stretch_of, n, word, goal, ())
            self.refuses(Harms, above, n, word, goal, ())
            self.refuses(NotGreatest, fixed, n, word, goal, ())

    def test_the_empty_word_and_one_card(self):
        for n in range(1, 8):
            args = [n, (), turned_row(n)]
            self.answers((1,), h_numbers, *args)
            self.answers((1,), f_numbers, *args)
            self.answers(True, is_sphere, *args)
            self.answers((), fixed, *args, ())
            self.answers((), stretch_of, *args, ())
            self.answers(((),), above, *args, ())

    def test_a_goal_that_the_word_goes_beyond(self):
        self.answers((1, 1, 1, 0, 0), h_numbers, 3, WORD, (1, 2, 0))
        self.answers((1, 0, 0, 0, 0, 0), h_numbers, 3, WORD, (2, 1, 0))
        self.answers((1, 5, 10, 10, 5, 1), f_numbers, 3, WORD, (2, 1, 0))
        self.answers(False, is_sphere, 3, WORD, (1, 2, 0))
        self.answers(False, is_sphere, 3, WORD, (2, 1, 0))
        self.answers((0, 1, 2, 3, 4), stretch_of, 3, WORD, (2, 1, 0), (1,))
        self.answers(((0, 1, 2, 3, 4),), above, 3, WORD, (2, 1, 0), (1,))
        self.answers((), fixed, 3, WORD, (2, 1, 0), (0, 1, 2, 3, 4))

    def test_a_pentagon(self):
        fixed_places = {(3, 4): (), (2, 3): (2,), (1, 2): (1,), (0, 4): (0,), (0, 1): (0, 1)}
        for lot, places in fixed_places.items():
            self.answers(places, fixed, 3, WORD, SORTED, lot)
        self.answers(((3, 4), (2, 3), (1, 2), (0, 4), (0, 1)), above, 3, WORD, SORTED, ())
        self.answers((3, 4), stretch_of, 3, WORD, SORTED, ())
        self.answers((0, 1), stretch_of, 3, WORD, SORTED, (0, 1))
        self.answers(((0, 1),), above, 3, WORD, SORTED, (0, 1))

    def test_40_deeds(self):
        # Of a lot all are fixed but those behind the one deed that works.
        word, goal = (0,) * 40, (0, 1)
        for works in (0, 1, 38, 39):
            lot = tuple([place for place in range(40) if place != works])
            self.answers(tuple(range(works)), fixed, 2, word, goal, lot)
        self.answers((1,) * 40, h_numbers, 2, word, goal)
        self.answers(tuple([place for place in range(40) if place != 2]), stretch_of, 2, word, goal, (0, 1, 5, 39))
        self.assertEqual(len(above(2, word, goal, (0, 1, 5, 39))), 36)
        self.assertEqual(f_numbers(2, word, goal)[:3], (1, 40, 780))
        self.assertEqual(sum(f_numbers(2, word, goal)), 2 ** 40 - 1)

    def test_many_lots_do_not_matter_to_one_stretch(self):
        word = (0, 1, 2, 3, 4, 5) * 6 + (0, 1, 2, 3)
        goal = tuple(range(7))
        many = count_lots(7, word, goal)
        for number in (0, 1, many // 2, many - 1):
            lot = lot_at(7, word, goal, number)
            places = fixed(7, word, goal, lot)
            self.assertEqual(stretch_of(7, word, goal, lot), lot)
            self.assertEqual(stretch_of(7, word, goal, places), lot)
        self.answers(lot_at(7, word, goal, 0), stretch_of, 7, word, goal, ())
        self.answers(True, is_sphere, 7, word, goal)

    def test_the_order_of_lots_with_a_deed_failing(self):
        in_order = ((3, 4), (2, 3), (1, 2), (0, 4), (0, 1))
        for place in range(5):
            self.answers(tuple([lot for lot in in_order if place in lot]), above, 3, WORD, SORTED, (place,))


class TooManyLots(Cases):
    def test_3000_and_3001(self):
        n, word = WORD_OF_3000
        goal = tuple(range(n))
        self.assertEqual((count_lots(n, word, goal), sum(h_numbers(n, word, goal))), (3000, 3000))
        self.assertEqual(f_numbers(n, word, goal)[-1], 3000)
        self.assertEqual(len(above(n, word, goal, ())), 3000)
        n, word = WORD_OF_3001
        goal = tuple(range(n))
        self.assertEqual(count_lots(n, word, goal), 3001)
        for function in (h_numbers, f_numbers):
            self.refuses(TooMany, function, n, word, goal, most=3000)
            self.refuses(BadGoal, function, n, word, SORTED)
        self.refuses(TooMany, above, n, word, goal, (), most=3000)
        self.refuses(Harms, above, n, word, goal, tuple(range(len(word))))
        self.refuses(BadLot, above, n, word, goal, (len(word),))
        self.answers(True, is_sphere, n, word, goal)
        self.answers(lot_at(n, word, goal, 0), stretch_of, n, word, goal, ())


class WrongValues(Cases):
    def test_each_parameter(self):
        for function, args in FUNCTIONS.items():
            self.refuses_wrong_tasks(function, args)
        for function in (fixed, stretch_of, above):
            self.refuses_each(BadLot, function, FUNCTIONS[function], 3, WRONG_LOTS_OF_5)
        self.refuses_each(NotGreatest, fixed, FUNCTIONS[fixed], 3, [(), (0,), (0, 2), (0, 1, 2), (0, 1, 2, 3, 4)])
        for function in (stretch_of, above):
            self.refuses_each(Harms, function, FUNCTIONS[function], 3, [(0, 2), (0, 1, 2), (0, 1, 2, 3, 4)])

    def test_order(self):
        self.refuses_in_order(fixed, *TASK, ((0, 1), ((1, 0), BadLot), ((0,), NotGreatest)))
        self.refuses_in_order(stretch_of, *TASK, ((0,), ((1, 0), BadLot), ((0, 2), Harms)))
        self.refuses_in_order(above, *TASK, ((0,), ((1, 0), BadLot), ((0, 2), Harms)))
        for function in (h_numbers, f_numbers, is_sphere):
            self.refuses_in_order(function, *TASK)


if __name__ == "__main__":
    unittest.main()
