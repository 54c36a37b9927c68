"""Points 21, 22 and 23: the chance that no harm is done, and the least lots that harm."""

import random
import unittest
from fractions import Fraction
from itertools import combinations
from math import comb

from helpers import (
    Cases, HALF, WORD_OF_3000, WORD_OF_3001, WORD_OF_500, WORD_OF_501, WRONG_CHANCES_OF_5, WRONG_INTEGERS, all_places,
    chance_of_lot, search_greatest, search_harmless, search_tasks, share_of, some_chances, turned_row,
)
from sturdysort.chances import chance, chance_numbers, least_harms, sturdy, worth
from sturdysort.errors import BadCards, BadChances, BadGoal, BadPlace, BadWord, TooLong, TooMany
from sturdysort.lots import count_lots, greatest_lots, is_harmless
from sturdysort.shelling import fixed

WORD = (0, 1, 0, 1, 0)
SORTED = (0, 1, 2)
NEVER = (0, 1)
SURELY = (1, 1)
TASK = [(3, (0, BadCards)), (WORD, ((2,), BadWord), ((0,) * 41, TooLong)), (SORTED, ((0, 1), BadGoal))]
CHANCES = ((HALF,) * 5, ((HALF,) * 4, BadChances))
FUNCTIONS = {
    chance: [3, WORD, SORTED, (HALF,) * 5], worth: [3, WORD, SORTED, (HALF,) * 5, 0],
    chance_numbers: [3, WORD, SORTED], least_harms: [3, WORD, SORTED], sturdy: [3, WORD, SORTED],
}


def meant_chance(harmless, chances):
    """The sum over all harmless lots of the chance that just their deeds fail."""
    return sum([chance_of_lot(chances, lot) for lot in harmless], Fraction(0))


def with_chance(chances, place, share):
    return (*chances[:place], share, *chances[place + 1:])


class BySearch(Cases):
    def test_chances(self):
        source = random.Random(21)
        for n, word, goal in search_tasks(21):
            harmless = search_harmless(n, word, goal)
            chances = some_chances(source, len(word))
            self.assertEqual(chance(n, word, goal, chances), share_of(meant_chance(harmless, chances)))
            for place in range(len(word)):
                parts = [meant_chance(harmless, with_chance(chances, place, share)) for share in (NEVER, SURELY)]
                self.assertEqual(worth(n, word, goal, chances, place), share_of(parts[0] - parts[1]))

    def test_the_sum_that_the_document_tells(self):
        source = random.Random(22)
        for n, word, goal in search_tasks(22)[-30:]:
            chances = some_chances(source, len(word))
            whole = Fraction(0)
            for lot in search_greatest(n, word, goal):
                held = set(fixed(n, word, goal, lot)) | (set(range(len(word))) - set(lot))
                part = Fraction(1)
                for place in held:
                    fails = Fraction(*chances[place])
                    part *= fails if place in lot else 1 - fails
                whole += part
            self.assertEqual(chance(n, word, goal, chances), share_of(whole))

    def test_numbers_of_q(self):
        for n, word, goal in search_tasks(23):
            counts = [0] * (len(word) + 1)
            for lot in search_harmless(n, word, goal):
                rest = len(word) - len(lot)
                for k in range(rest + 1):
                    counts[len(lot) + k] += (-1) ** k * comb(rest, k)
            while counts and counts[-1] == 0:
                counts.pop()
            self.assertEqual(chance_numbers(n, word, goal), tuple(counts))

    def test_least_harms(self):
        for n, word, goal in search_tasks(24):
            harmless = search_harmless(n, word, goal)
            harms = [lot for lot in all_places(len(word)) if lot not in harmless]
            least = [lot for lot in harms if not any(lot[:k] + lot[k + 1:] in harms for k in range(len(lot)))]
            self.assertEqual(least_harms(n, word, goal), tuple(sorted(least, key=lambda lot: (len(lot), lot))))
            any_may_fail = [k for k in range(len(word) + 1)
                            if all(lot in harmless for lot in combinations(range(len(word)), k))]
            self.assertEqual(sturdy(n, word, goal), max(any_may_fail, default=-1))


class Chances(Cases):
    def test_never_and_surely(self):
        for lot in all_places(5):
            chances = tuple([SURELY if place in lot else NEVER for place in range(5)])
            self.answers(SURELY if is_harmless(3, WORD, SORTED, lot) else NEVER, chance, 3, WORD, SORTED, chances)

    def test_no_deeds(self):
        for n in range(1, 8):
            self.answers((1, 1), chance, n, (), turned_row(n), ())
            self.answers((1,), chance_numbers, n, (), turned_row(n))
            self.refuses(BadPlace, worth, n, (), turned_row(n), (), 0)
        self.answers((0, 1), chance, 3, (), SORTED, ())
        self.answers((), chance_numbers, 3, (), SORTED)

    def test_a_goal_that_is_not_reached(self):
        self.answers((0, 1), chance, 3, (0, 1), SORTED, (NEVER, NEVER))
        self.answers((0, 1), chance, 3, (0, 1), SORTED, (HALF, HALF))
        self.answers((), chance_numbers, 3, (0, 1), SORTED)
        self.answers((0, 1), worth, 3, (0, 1), SORTED, (HALF, HALF), 1)

    def test_a_goal_that_cannot_be_missed(self):
        self.answers((1, 1), chance, 3, WORD, (2, 1, 0), (HALF,) * 5)
        self.answers((1,), chance_numbers, 3, WORD, (2, 1, 0))
        self.answers((0, 1), worth, 3, WORD, (2, 1, 0), (HALF,) * 5, 2)

    def test_numbers_without_noughts_at_their_end(self):
        self.answers((1, 0, -1), chance_numbers, 2, (0, 0), (0, 1))
        self.answers((1,) + (0,) * 39 + (-1,), chance_numbers, 2, (0,) * 40, (0, 1))
        self.answers((1, -3, 3, -1), chance_numbers, 3, (0, 1, 0), SORTED)
        self.answers((1, -1), chance_numbers, 3, (0, 1), (1, 2, 0))

    def test_40_deeds_with_great_bottoms(self):
        shares = tuple([(top, 10 ** 6) for top in range(999999, 999899, -2) if top % 5][:40])
        self.assertEqual(len(shares), 40)
        product = Fraction(1)
        for share in shares:
            product *= Fraction(*share)
        self.answers(share_of(1 - product), chance, 2, (0,) * 40, (0, 1), shares)
        self.answers(share_of(product / Fraction(*shares[7])), worth, 2, (0,) * 40, (0, 1), shares, 7)

    def test_greatest_parts(self):
        self.answers((1, 10 ** 6), chance, 2, (0,), (0, 1), ((999999, 10 ** 6),))
        self.answers((999999, 10 ** 6), chance, 2, (0,), (0, 1), ((1, 10 ** 6),))
        self.refuses(BadChances, chance, 2, (0,), (0, 1), ((1, 10 ** 6 + 1),))
        self.refuses(BadChances, chance, 2, (0,), (0, 1), ((10 ** 6, 10 ** 6 + 1),))


class LeastHarms(Cases):
    def test_edges(self):
        self.answers(((),), least_harms, 3, (0, 1), SORTED)
        self.answers(-1, sturdy, 3, (0, 1), SORTED)
        self.answers((), least_harms, 3, WORD, (2, 1, 0))
        self.answers(5, sturdy, 3, WORD, (2, 1, 0))
        self.answers((), least_harms, 1, (), (0,))
        self.answers(0, sturdy, 1, (), (0,))
        self.answers(((),), least_harms, 2, (), (0, 1))
        self.answers(-1, sturdy, 2, (), (0, 1))
        self.answers(((0,), (1,), (2,)), least_harms, 3, (0, 1, 0), SORTED)
        self.answers(0, sturdy, 3, (0, 1, 0), SORTED)
        self.answers((tuple(range(40)),), least_harms, 2, (0,) * 40, (0, 1))
        self.answers(39, sturdy, 2, (0,) * 40, (0, 1))

    def test_order(self):
        self.answers(((3,), (0, 1, 2)), least_harms, 3, (0, 0, 0, 1), (1, 0, 2))
        self.answers(((0, 3), (1, 2, 4)), least_harms, 4, (0, 2, 2, 0, 2), (2, 3, 0, 1))
        self.answers(((1, 3), (0, 2, 4)), least_harms, 4, (0, 2, 0, 2, 0), (2, 3, 0, 1))

    def test_500_and_501_lots(self):
        n, word = WORD_OF_500
        self.assertEqual(count_lots(n, word, SORTED), 500)
        firsts = tuple(range(5)), tuple(range(5, 15)), tuple(range(15, 25))
        self.answers(firsts, least_harms, n, word, SORTED)
        self.answers(4, sturdy, n, word, SORTED)
        n, word = WORD_OF_501
        self.assertEqual(count_lots(n, word, SORTED), 501)
        self.refuses(TooMany, least_harms, n, word, SORTED, most=500)
        self.refuses(TooMany, sturdy, n, word, SORTED, most=500)
        self.refuses(BadGoal, least_harms, n, word, (0, 1))

    def test_longer_words(self):
        source = random.Random(25)
        for _ in range(15):
            word = tuple([source.randrange(4) for _ in range(16)])
            goal = (2, 1, 0, 4, 3)
            if not 1 <= count_lots(5, word, goal) <= 500:
                continue
            works = [set(range(16)) - set(lot) for lot in greatest_lots(5, word, goal)]
            found = least_harms(5, word, goal)
            # What harms takes a deed from each of the shortest words that are scattered in the word.
            for lot in found:
                self.assertTrue(all(places & set(lot) for places in works))
                for place in lot:
                    self.assertFalse(all(places & (set(lot) - {place}) for places in works))
            for lot in combinations(range(16), 3):
                harms = all(places & set(lot) for places in works)
                self.assertIs(harms, any(set(one) <= set(lot) for one in found))


class TooManyLots(Cases):
    def test_3000_and_3001(self):
        n, word = WORD_OF_3000
        goal, chances = tuple(range(n)), (HALF,) * len(word)
        self.answers((1, 1), chance, n, word, goal, (NEVER,) * len(word))
        numbers = chance_numbers(n, word, goal)
        self.assertEqual((numbers[0], sum(numbers)), (1, 0))
        at_half = sum([Fraction(number, 2 ** k) for k, number in enumerate(numbers)])
        self.answers(share_of(at_half), chance, n, word, goal, chances)
        parts = [chance(n, word, goal, with_chance(chances, 9, share)) for share in (NEVER, SURELY)]
        self.answers(share_of(Fraction(*parts[0]) - Fraction(*parts[1])), worth, n, word, goal, chances, 9)
        n, word = WORD_OF_3001
        goal, chances = tuple(range(n)), (HALF,) * len(word)
        self.refuses(TooMany, chance, n, word, goal, chances, most=3000)
        self.refuses(TooMany, chance_numbers, n, word, goal, most=3000)
        self.refuses(TooMany, worth, n, word, goal, chances, 0, most=3000)
        self.refuses(BadChances, chance, n, word, goal, chances[1:])
        self.refuses(BadChances, worth, n, word, goal, chances[1:], -1)
        self.refuses(BadPlace, worth, n, word, goal, chances, len(word))
        self.refuses(BadGoal, chance_numbers, n, word, SORTED)
        self.refuses(TooMany, least_harms, n, word, goal, most=500)
        self.refuses(TooMany, sturdy, n, word, goal, most=500)


class WrongValues(Cases):
    def test_each_parameter(self):
        for function, args in FUNCTIONS.items():
            self.refuses_wrong_tasks(function, args)
        for function in (chance, worth):
            self.refuses_each(BadChances, function, FUNCTIONS[function], 3, WRONG_CHANCES_OF_5)
        self.refuses_each(BadPlace, worth, FUNCTIONS[worth], 4, WRONG_INTEGERS + [-1, 5, 6])

    def test_order(self):
        for function in (chance_numbers, least_harms, sturdy):
            self.refuses_in_order(function, *TASK)
        self.refuses_in_order(chance, *TASK, CHANCES)
        self.refuses_in_order(worth, *TASK, CHANCES, (0, (5, BadPlace)))


if __name__ == "__main__":
    unittest.main()
