"""Points 41, 42 and 43: costs of deeds, words that wear out, and deeds made sure."""

import random
import unittest
from fractions import Fraction
from itertools import combinations, permutations
from math import comb

from helpers import (
    Cases, HALF, ODD, WORD_OF_3000, WORD_OF_3001, WRONG_CHANCES_OF_5, WRONG_INTEGERS, WRONG_SHARES, all_deed_words,
    all_places, all_rows, exactly, search_harmless, search_run, search_tasks, share_of, some_chances,
    turned_row,
)
from sturdysort.chances import chance
from sturdysort.desks import Desk
from sturdysort.errors import (
    BadCards, BadChances, BadCosts, BadGoal, BadNumber, BadShare, BadWord, TooLong, TooMany,
)
from sturdysort.lots import is_harmless
from sturdysort.shelling import f_numbers
from sturdysort.wearing import cheapest, strengthened, survival, wear
from sturdysort.words import scattered

WORD = (0, 1, 0, 1, 0)
SORTED = (0, 1, 2)
ONES = (1,) * 5
NEVER = (0, 1)
SURELY = (1, 1)
MOST = 10 ** 6
TASK = [(3, (0, BadCards)), (WORD, ((2,), BadWord), ((0,) * 41, TooLong)), (SORTED, ((0, 1), BadGoal))]
CHANCES = ((HALF,) * 5, ((HALF,) * 4, BadChances))
COSTS = (ONES, ((1,) * 4, BadCosts), ((1, 1, 1, 1, -1), BadCosts))
FUNCTIONS = {
    cheapest: [3, WORD, SORTED, ONES], survival: [3, WORD, SORTED, 2], wear: [3, WORD, SORTED],
    strengthened: [3, WORD, SORTED, (HALF,) * 5, ONES, HALF],
}
# Wrong for words of 5 deeds.
WRONG_COSTS_OF_5 = ODD + [
    0, (), (1,), (1,) * 4, (1,) * 6, [1] * 5, {1: 1}, "11111", (1, 1, 1, 1, True), (False, 1, 1, 1, 1),
    (1,) * 4 + (None,), (1, 1, "1", 1, 1), (1, 1, (1,), 1, 1), (1, 1, [1], 1, 1), (1, 1, {}, 1, 1), (1, 1, 1, 1, -1),
    (-1, 1, 1, 1, 1), (1, 1, MOST + 1, 1, 1), (MOST + 1, 0, 0, 0, 0), (0, 0, 0, 0, 10 ** 40), (-10 ** 40, 0, 0, 0, 0),
    (ONES,), (HALF,) * 5,
]


def shortest_length(goal):
    """How many pairs a word must bring in order that leads the turned row to the goal."""
    return len([1 for one, other in combinations(goal, 2) if one < other])


def meant_cheapest(n, word, goal, costs):
    """Point 41's words."""
    found = [(sum([costs[place] for place in places]), places)
             for places in combinations(range(len(word)), shortest_length(goal))
             if search_run(turned_row(n), [word[place] for place in places]) == goal]
    return min(found, default=None)


class Cheapest(Cases):
    def test_all_tuples_of_places(self):
        source = random.Random(41)
        nones = 0
        for n, word, goal in search_tasks(41):
            for most in (0, 1, 3, 50, MOST):
                costs = tuple([source.choice([0, most, source.randrange(most + 1)]) for _ in word])
                meant = meant_cheapest(n, word, goal, costs)
                self.assertEqual(exactly(cheapest(n, word, goal, costs)), exactly(meant))
                nones += meant is None
        self.assertGreater(nones, 50)

    def test_like_sums_the_least_places(self):
        source = random.Random(42)
        ties = 0
        for _ in range(150):
            n = source.choice([3, 3, 4])
            word = tuple([source.randrange(n - 1) for _ in range(9)])
            goal = search_run(turned_row(n), word[::2])
            costs = tuple([source.choice([0, 0, 1, 2]) for _ in word])
            meant = meant_cheapest(n, word, goal, costs)
            self.assertEqual(cheapest(n, word, goal, costs), meant)
            ties += scattered(n, word, goal) != meant[1]
        self.assertGreater(ties, 30)

    def test_like_costs(self):
        for n, word, goal in search_tasks(43)[::3]:
            places = scattered(n, word, goal)
            for cost in (0, 7):
                meant = None if places is None else (cost * len(places), places)
                self.assertEqual(cheapest(n, word, goal, (cost,) * len(word)), meant)

    def test_all_other_deeds_may_be_left_out(self):
        source = random.Random(44)
        for n, word, goal in search_tasks(44)[::3]:
            told = cheapest(n, word, goal, tuple([source.randrange(9) for _ in word]))
            self.assertIs(told is not None, is_harmless(n, word, goal, ()))
            if told:
                others = tuple([place for place in range(len(word)) if place not in told[1]])
                self.assertTrue(is_harmless(n, word, goal, others))

    def test_edges(self):
        self.answers((0, ()), cheapest, 1, (), (0,), ())
        self.answers((0, ()), cheapest, 3, (), (2, 1, 0), ())
        self.answers(None, cheapest, 3, (), SORTED, ())
        self.answers(None, cheapest, 3, (0, 1), SORTED, (0, 0))
        self.answers((0, ()), cheapest, 3, WORD, (2, 1, 0), (MOST,) * 5)
        self.answers((3 * MOST, (0, 1, 2)), cheapest, 3, WORD, SORTED, (MOST,) * 5)
        self.answers((0, (0, 1, 2)), cheapest, 3, WORD, SORTED, (0,) * 5)
        self.answers((3, (1, 2, 3)), cheapest, 3, WORD, SORTED, (5, 1, 1, 1, 1))
        self.answers((2, (0, 1, 4)), cheapest, 3, WORD, SORTED, (1, 1, 1, 1, 0))
        self.answers((0, (39,)), cheapest, 2, (0,) * 40, (0, 1), (1,) * 39 + (0,))
        self.answers((1, (0,)), cheapest, 2, (0,) * 40, (0, 1), (1,) * 40)

    def test_40_deeds(self):
        word = ((0, 1, 2, 3, 4, 5) * 7)[:40]
        goal = tuple(range(7))
        total, places = cheapest(7, word, goal, tuple(range(MOST, MOST - 40, -1)))
        self.assertEqual(search_run(turned_row(7), [word[place] for place in places]), goal)
        self.assertEqual((len(places), total), (21, sum([MOST - place for place in places])))
        self.answers((21, scattered(7, word, goal)), cheapest, 7, word, goal, (1,) * 40)

    def test_costs(self):
        self.refuses_each(BadCosts, cheapest, FUNCTIONS[cheapest], 3, WRONG_COSTS_OF_5)
        self.refuses_each(BadCosts, strengthened, FUNCTIONS[strengthened], 4, WRONG_COSTS_OF_5)
        self.refuses(BadCosts, cheapest, 3, (), (2, 1, 0), (0,))


class Survival(Cases):
    def test_all_lots(self):
        for n, word, goal in search_tasks(45):
            harmless = [len(lot) for lot in search_harmless(n, word, goal)]
            total = Fraction(0)
            for many in range(len(word) + 1):
                lots = list(combinations(range(len(word)), many))
                part = Fraction(harmless.count(many), len(lots))
                self.assertEqual(exactly(survival(n, word, goal, many)), exactly(share_of(part)))
                total += part
            self.assertEqual(exactly(wear(n, word, goal)), exactly(share_of(total)))
            for many in (-1, len(word) + 1):
                self.refuses(BadNumber, survival, n, word, goal, many)

    def test_all_orders(self):
        source = random.Random(46)
        tasks = [(n, word, goal) for n, longest in ((1, 0), (2, 3), (3, 3)) for word in all_deed_words(n, longest)
                 for goal in all_rows(n)]
        for n, length in ((2, 5), (3, 4), (3, 5), (3, 6), (4, 6), (4, 6)) * 2:
            word = tuple([source.randrange(n - 1) for _ in range(length)])
            tasks += [(n, word, search_run(turned_row(n), word)), (n, word, search_run(turned_row(n), word[::2])),
                      (n, word, source.choice(all_rows(n)))]
        for n, word, goal in tasks:
            self.assertEqual(wear(n, word, goal), self.mean_of_orders(n, word, goal))

    def mean_of_orders(self, n, word, goal):
        """Point 42's words: deeds fail one behind another, in each order."""
        harmless = search_harmless(n, word, goal)
        if not harmless:
            return NEVER
        numbers = []
        for order in permutations(range(len(word))):
            many = 0
            while many <= len(word) and tuple(sorted(order[:many])) in harmless:
                many += 1
            numbers.append(many)
        return share_of(Fraction(sum(numbers), len(numbers)))

    def test_a_goal_that_is_not_reached(self):
        for many in (0, 1, 2):
            self.answers(NEVER, survival, 3, (0, 1), SORTED, many)
        self.answers(NEVER, survival, 3, (), SORTED, 0)
        self.answers(NEVER, wear, 3, (0, 1), SORTED)
        self.answers(NEVER, wear, 2, (), (0, 1))

    def test_no_lot_harms(self):
        for n in range(1, 8):
            self.answers(SURELY, survival, n, (), turned_row(n), 0)
            self.answers(SURELY, wear, n, (), turned_row(n))
            self.refuses(BadNumber, survival, n, (), turned_row(n), 1)
        for many in range(6):
            self.answers(SURELY, survival, 3, WORD, (2, 1, 0), many)
        self.answers((6, 1), wear, 3, WORD, (2, 1, 0))
        self.answers((41, 1), wear, 2, (0,) * 40, (1, 0))
        self.answers(SURELY, survival, 2, (0,) * 40, (1, 0), 40)

    def test_some(self):
        self.answers((1, 1), wear, 3, (0, 1, 0), SORTED)
        self.answers((40, 1), wear, 2, (0,) * 40, (0, 1))
        self.answers(SURELY, survival, 2, (0,) * 40, (0, 1), 39)
        self.answers(NEVER, survival, 2, (0,) * 40, (0, 1), 40)
        self.answers((5, 2), wear, 3, WORD, SORTED)
        self.answers((1, 2), survival, 3, WORD, SORTED, 2)
        self.answers(NEVER, survival, 3, WORD, SORTED, 3)

    def test_3000_and_3001_lots(self):
        n, word = WORD_OF_3000
        goal = tuple(range(n))
        counts = f_numbers(n, word, goal)
        most = len(counts) - 1
        self.answers(share_of(Fraction(3000, comb(len(word), most))), survival, n, word, goal, most)
        total = sum([Fraction(count, comb(len(word), many)) for many, count in enumerate(counts)])
        self.answers(share_of(total), wear, n, word, goal)
        self.refuses(BadNumber, survival, n, word, goal, len(word) + 1)
        n, word = WORD_OF_3001
        goal = tuple(range(n))
        self.refuses(TooMany, wear, n, word, goal, most=3000)
        self.refuses(TooMany, survival, n, word, goal, 0, most=3000)
        for wrong in (-1, len(word) + 1, None, True, "0"):
            self.refuses(TooMany, survival, n, word, goal, wrong, most=3000)
        self.refuses(BadGoal, survival, n, word, SORTED, -1)

    def test_numbers(self):
        self.refuses_each(BadNumber, survival, FUNCTIONS[survival], 3, WRONG_INTEGERS + [6, 7, -1])


def chance_with(harmless, chances, lot):
    """The chance of no harm if a lot's deeds never fail."""
    total, bottoms = 0, 1
    for _, bottom in chances:
        bottoms *= bottom
    for failing in harmless:
        part = 1
        for place, (top, bottom) in enumerate(chances):
            fails = 0 if place in lot else top
            part *= fails if place in failing else bottom - fails
        total += part
    return Fraction(total, bottoms)


def least_enough(chance_if_sure, costs, wanted):
    """Point 43's words, for a function that tells the chance of no harm if a lot's deeds never fail."""
    found = [(sum([costs[place] for place in lot]), len(lot), lot) for lot in all_places(len(costs))
             if chance_if_sure(lot) >= Fraction(*wanted)]
    return (min(found)[0], min(found)[2]) if found else None


def meant_strengthened(n, word, goal, chances, costs, wanted):
    harmless = search_harmless(n, word, goal)
    return least_enough(lambda lot: chance_with(harmless, chances, lot), costs, wanted)


def chance_if_sure(n, word, goal, chances, lot):
    sure = tuple([NEVER if place in lot else share for place, share in enumerate(chances)])
    return Fraction(*chance(n, word, goal, sure))


class Strengthened(Cases):
    def tasks(self, seed):
        source = random.Random(seed)
        found = [(n, word, goal) for n, longest in ((1, 0), (2, 3), (3, 2)) for word in all_deed_words(n, longest)
                 for goal in all_rows(n)]
        for n, length in ((2, 5), (3, 5), (3, 6), (3, 7), (4, 6), (4, 7)) * 3:
            word = tuple([source.randrange(n - 1) for _ in range(length)])
            found += [(n, word, search_run(turned_row(n), word)), (n, word, search_run(turned_row(n), word[::2])),
                      (n, word, source.choice(all_rows(n)))]
        return found

    def test_all_lots(self):
        source = random.Random(43)
        kinds = set()
        for n, word, goal in self.tasks(43):
            chances = some_chances(source, len(word))
            costs = tuple([source.choice([0, 0, 1, 1, 2, 5, MOST]) for _ in word])
            held = chance(n, word, goal, chances)
            for wanted in (NEVER, SURELY, HALF, (1, 5), (99, 100), held if max(held) <= MOST else HALF):
                meant = meant_strengthened(n, word, goal, chances, costs, wanted)
                self.assertEqual(exactly(strengthened(n, word, goal, chances, costs, wanted)), exactly(meant))
                kinds.add(None if meant is None else len(meant[1]))
        self.assertLessEqual({None, 0, 1, 2, 3}, kinds)

    def test_equal_sums(self):
        source = random.Random(44)
        for n, word, goal in self.tasks(44)[-24:]:
            chances = (source.choice([HALF, (1, 3), (9, 10)]),) * len(word)
            for costs in ((0,) * len(word), (1,) * len(word), (3, 1, 2, 1, 3, 1, 2)[:len(word)]):
                for wanted in (HALF, (3, 4), SURELY):
                    meant = meant_strengthened(n, word, goal, chances, costs, wanted)
                    self.assertEqual(strengthened(n, word, goal, chances, costs, wanted), meant)

    def test_wanted_0_and_1(self):
        self.answers((0, ()), strengthened, *FUNCTIONS[strengthened][:5], NEVER)
        self.answers((0, ()), strengthened, 3, (0, 1), SORTED, (HALF,) * 2, (0, 0), NEVER)
        self.answers(None, strengthened, 3, (0, 1), SORTED, (HALF,) * 2, (0, 0), SURELY)
        self.answers(None, strengthened, 3, (0, 1), SORTED, (NEVER,) * 2, (0, 0), (1, MOST))
        self.answers((3, (0, 1, 2)), strengthened, *FUNCTIONS[strengthened][:5], SURELY)
        self.answers((0, ()), strengthened, 3, WORD, SORTED, (NEVER,) * 5, ONES, SURELY)
        self.answers((0, ()), strengthened, 1, (), (0,), (), (), SURELY)
        self.answers((0, ()), strengthened, 3, (), (2, 1, 0), (), (), SURELY)
        self.answers(None, strengthened, 3, (), SORTED, (), (), (1, MOST))

    def test_fewer_deeds_ahead_of_lesser_ones(self):
        # Of deeds that cost nothing just those are made sure that must be.
        self.answers((0, ()), strengthened, 2, (0, 0), (0, 1), (HALF,) * 2, (0, 0), (3, 4))
        self.answers((0, (0,)), strengthened, 2, (0, 0), (0, 1), (HALF,) * 2, (0, 0), (4, 5))
        self.answers((0, (1,)), strengthened, 2, (0, 0), (0, 1), (HALF,) * 2, (1, 0), (4, 5))
        # One deed for 2 stands ahead of two for 1 each, though these are less as a tuple and do as well.
        args = [3, (0, 1, 0, 1), SORTED, ((1, 3), (1, 3), HALF, HALF)]
        self.answers((2, (2,)), strengthened, *args, (1, 1, 2, 2), HALF)
        self.answers((2, (0, 1)), strengthened, *args, (1, 1, 3, 3), HALF)

    def test_wanted_just_what_is_held(self):
        held = Fraction(*chance(3, WORD, SORTED, (HALF,) * 5))
        self.answers((0, ()), strengthened, *FUNCTIONS[strengthened][:5], share_of(held))
        more = held + Fraction(1, 32 * 31249)
        self.assertLessEqual(more.denominator, MOST)
        self.answers((1, (0,)), strengthened, *FUNCTIONS[strengthened][:5], share_of(more))

    def test_10_and_11_deeds(self):
        args = [(HALF,) * 10, (MOST,) * 10, (999999, MOST)]
        self.answers((3 * MOST, (0, 1, 2)), strengthened, 3, WORD * 2, SORTED, *args)
        task = [3, (0, 1) * 5, SORTED, ((1, 3), HALF) * 5]
        for wanted in ((9, 10), (99, 100)):
            meant = least_enough(lambda lot: chance_if_sure(*task, lot), (3, 1, 4, 1, 5, 9, 2, 6, 5, 3), wanted)
            self.answers(meant, strengthened, *task, (3, 1, 4, 1, 5, 9, 2, 6, 5, 3), wanted)
        for length in (11, 12, 39, 40):
            word = ((0, 1) * 20)[:length]
            self.refuses(TooLong, strengthened, 3, word, SORTED, (HALF,) * length, (1,) * length, HALF, most=10)
            self.refuses(TooLong, strengthened, 3, word, (0, 1), None, None, None, most=10)
        for length in (41, 200):
            word = ((0, 1) * 100)[:length]
            self.refuses(TooLong, strengthened, 3, word, SORTED, (HALF,) * length, (1,) * length, HALF, most=40)
        self.refuses(BadWord, strengthened, 3, (0,) * 201, SORTED, (), (), HALF)

    def test_it_is_the_chance_of_a_desk_with_sure_deeds(self):
        chances = ((1, 3),) * 5
        for wanted in (HALF, (3, 4), (9, 10), SURELY):
            total, lot = strengthened(3, WORD, SORTED, chances, (3, 1, 4, 1, 5), wanted)
            desk = Desk(3, WORD, SORTED)
            for place in lot:
                desk.mark(place, "sure")
            self.assertGreaterEqual(Fraction(*desk.chance((1, 3))), Fraction(*wanted))
            self.assertEqual(total, sum([(3, 1, 4, 1, 5)[place] for place in lot]))


class WrongValues(Cases):
    def test_each_parameter(self):
        for function in (cheapest, survival, wear):
            self.refuses_wrong_tasks(function, FUNCTIONS[function])
        args = FUNCTIONS[strengthened]
        self.refuses_wrong_tasks(strengthened, args)
        self.refuses_each(BadChances, strengthened, args, 3, WRONG_CHANCES_OF_5)
        self.refuses_each(BadShare, strengthened, args, 5, WRONG_SHARES)

    def test_order(self):
        self.refuses_in_order(cheapest, *TASK, COSTS)
        self.refuses_in_order(survival, *TASK, (0, (6, BadNumber), (True, BadNumber)))
        self.refuses_in_order(wear, *TASK)
        wanted = (HALF, ((2, 4), BadShare), (None, BadShare))
        word = (*TASK[1], ((0,) * 11, TooLong))
        self.refuses_in_order(strengthened, TASK[0], word, TASK[2], CHANCES, COSTS[:2], wanted)


if __name__ == "__main__":
    unittest.main()
