"""Points 27 and 28, and the flips of point 40: bubble words, diagonals of polygons, and cuttings."""

import random
import unittest
from itertools import combinations, permutations, product
from math import comb

from helpers import Cases, ODD, WRONG_CARDS, WRONG_INTEGERS, WRONG_TIMES, all_places, search_greatest
from sturdysort.errors import BadCards, BadLot, BadPairs, BadPlace, BadTimes, NoDiagonal, NotGreatest
from sturdysort.lots import count_lots, is_harmless, lot_at
from sturdysort.polygons import bubble, count_cuttings, diagonal, flip, is_cutting, lot_of, pairs_of, place_of

PENTAGON = ((0, 2), (0, 3), (1, 3), (1, 4), (2, 4))
FUNCTIONS = {
    diagonal: [3, 1, 0], place_of: [3, 1, (0, 2)], is_cutting: [3, 1, ((0, 2),)], lot_of: [3, 1, ((0, 2),)],
    pairs_of: [3, 1, (0,)], count_cuttings: [3, 1], flip: [3, 1, ((0, 2), (0, 3)), (0, 3)],
}
# None of these stands for a deed of the pentagon.
WRONG_DIAGONALS = ODD + [
    0, (), (0,), (2,), (0, 0), (0, 1), (0, 4), (1, 2), (3, 4), (2, 5), (0, 5), (3, 5), (-1, 1), (-3, 0), (2, 0), (3, 1),
    (4, 2), (False, 2), (True, 3), (0, 2, 4), (0, None), ("0", 2), (0, 10 ** 40), [0, 2], [[0, 2]], ((0, 2),), "02",
    {0: 2},
]
WRONG_PAIRS = [value for value in ODD if value != ()] + [
    0, (0, 2), [(0, 2)], [[0, 2]], ([0, 2],), {(0, 2): True}, "02", ((0, 2), (0, 2)), ((0, 3), (0, 2)),
    ((0, 2), (1, 4), (1, 3)), ((0, 2), (2, 4), (2, 4)), ((0, 2), None), ((0, 2), 3), ((0, 2), (0, 3, 4)),
    ((0, 2), (False, 3)), ((0, 2), (True, 3)), (*PENTAGON, (3, 5)), (*PENTAGON, PENTAGON[4]),
] + [(pair,) for pair in WRONG_DIAGONALS]


def sizes(most=99):
    """All n and k for which deeds stand for diagonals, of bubble words that are short enough."""
    found = [(n, k) for n in range(2, 8) for k in range(1, 4)]
    return [(n, k) for n, k in found if n * (n - 1) // 2 + k * (n - 1) <= most]


def long_diagonals(n, k):
    """The diagonals of the polygon that at least k corners lie behind on both sides."""
    corners = n + 2 * k
    return [(a, b) for a, b in combinations(range(corners), 2) if k < b - a < corners - k]


def cross(one, other):
    """Point 28's words."""
    inside = [one[0] < corner < one[1] for corner in other]
    return len(set(one + other)) == 4 and inside.count(True) == 1


def meant_cutting(k, pairs):
    return not any(all(cross(one, other) for one, other in combinations(some, 2))
                   for some in combinations(pairs, k + 1))


class Bubbles(Cases):
    def test_all(self):
        for n in range(1, 8):
            for k in range(4):
                word = list(range(n - 1)) * k
                for length in range(n - 1, 0, -1):
                    word += range(length)
                self.assertEqual(len(word), n * (n - 1) // 2 + k * (n - 1))
                self.answers(tuple(word), bubble, n, k)

    def test_some(self):
        self.answers((), bubble, 1, 0)
        self.answers((), bubble, 1, 3)
        self.answers((0,), bubble, 2, 0)
        self.answers((0, 0, 0, 0), bubble, 2, 3)
        self.answers((0, 1, 2, 0, 1, 0), bubble, 4, 0)
        self.answers((0, 1, 2, 0, 1, 2, 0, 1, 2, 0, 1, 0), bubble, 4, 2)

    def test_wrong_values(self):
        self.refuses_each(BadCards, bubble, [3, 1], 0, WRONG_CARDS)
        self.refuses_each(BadTimes, bubble, [3, 1], 1, WRONG_TIMES)
        self.refuses_in_order(bubble, (3, (0, BadCards), (True, BadCards)), (0, (4, BadTimes), (-1, BadTimes)))


class Diagonals(Cases):
    def test_there_and_back(self):
        for n, k in sizes():
            place = 0
            for t in range(n + k - 1):
                for j in range(min(n - 1, n + k - 1 - t)):
                    self.answers((t, t + k + 1 + j), diagonal, n, k, place)
                    self.answers(place, place_of, n, k, (t, t + k + 1 + j))
                    place += 1
            self.assertEqual(place, len(bubble(n, k)))
            self.refuses(BadPlace, diagonal, n, k, place)
            self.refuses(BadPlace, diagonal, n, k, -1)

    def test_just_the_long_ones_stand_for_deeds(self):
        for n, k in sizes():
            known = long_diagonals(n, k)
            self.assertEqual([diagonal(n, k, place) for place in range(len(bubble(n, k)))], known)
            for pair in product(range(-1, n + 2 * k + 2), repeat=2):
                if pair not in known:
                    self.refuses(NoDiagonal, place_of, n, k, pair)

    def test_wrong_values(self):
        self.refuses_each(NoDiagonal, place_of, FUNCTIONS[place_of], 2, WRONG_DIAGONALS)
        self.refuses_each(BadPlace, diagonal, FUNCTIONS[diagonal], 2, WRONG_INTEGERS + [5, 6, -1])


class Cuttings(Cases):
    def test_all_tuples_of_few_diagonals(self):
        for n, k in sizes(10):
            word, goal = bubble(n, k), tuple(range(n))
            known = long_diagonals(n, k)
            for lot in all_places(len(word)):
                pairs = tuple([known[place] for place in lot])
                meant = meant_cutting(k, pairs)
                self.assertIs(is_cutting(n, k, pairs), meant)
                self.assertIs(is_harmless(n, word, goal, lot), meant)
                self.assertEqual(lot_of(n, k, pairs), lot)
                self.assertEqual(pairs_of(n, k, lot), pairs)

    def test_more_diagonals(self):
        source = random.Random(28)
        for n, k in sizes():
            word, goal = bubble(n, k), tuple(range(n))
            known = long_diagonals(n, k)
            many = 0
            for _ in range(12):
                pairs = tuple(sorted(source.sample(known, min(len(known), source.randrange(k, 4 * k + 2)))))
                lot = tuple([known.index(pair) for pair in pairs])
                self.assertIs(is_cutting(n, k, pairs), meant_cutting(k, pairs))
                self.assertIs(is_cutting(n, k, pairs), is_harmless(n, word, goal, lot))
                self.answers(lot, lot_of, n, k, pairs)
                self.answers(pairs, pairs_of, n, k, lot)
                many += is_cutting(n, k, pairs)
            greatest = pairs_of(n, k, lot_at(n, word, goal, count_lots(n, word, goal) // 2))
            self.assertEqual(len(greatest), k * (n - 1))
            self.answers(True, is_cutting, n, k, greatest)
            self.answers(False, is_cutting, n, k, tuple(known))

    def test_no_diagonals(self):
        for n, k in sizes():
            self.answers(True, is_cutting, n, k, ())
            self.answers((), lot_of, n, k, ())
            self.answers((), pairs_of, n, k, ())

    def test_k_that_cross_are_no_harm(self):
        self.answers(True, is_cutting, 4, 2, ((0, 4), (1, 5)))
        self.answers(False, is_cutting, 4, 1, ((0, 2), (1, 3)))
        self.answers(True, is_cutting, 4, 2, ((0, 3), (1, 5), (3, 6)))
        self.answers(False, is_cutting, 4, 2, ((0, 3), (1, 5), (2, 6)))
        self.answers(False, is_cutting, 4, 2, ((0, 4), (1, 5), (2, 6)))
        self.answers(True, is_cutting, 4, 3, ((0, 4), (1, 5), (2, 6)))
        self.answers(False, is_cutting, 4, 3, ((0, 4), (1, 5), (2, 6), (3, 7)))

    def test_diagonals_with_a_corner_in_common(self):
        self.answers(True, is_cutting, 4, 1, ((0, 2), (0, 3), (0, 4)))
        self.answers(True, is_cutting, 4, 1, ((0, 2), (2, 4), (2, 5)))
        self.answers(True, is_cutting, 4, 1, ((0, 3), (1, 3), (3, 5)))


class Counts(Cases):
    def test_greatest_lots(self):
        for n, k in sizes():
            self.answers(count_lots(n, bubble(n, k), tuple(range(n))), count_cuttings, n, k)

    def test_the_determinant(self):
        for n, k in sizes():
            total = 0
            for columns in permutations(range(1, k + 1)):
                part = 1
                for i, j in enumerate(columns, 1):
                    m = n + 2 * k - i - j
                    part *= comb(2 * m, m) // (m + 1)
                twists = [1 for one, other in combinations(columns, 2) if one > other]
                total += part * (-1) ** len(twists)
            self.assertEqual(count_cuttings(n, k), total)

    def test_some(self):
        self.assertEqual([count_cuttings(n, 1) for n in range(2, 8)], [2, 5, 14, 42, 132, 429])
        self.assertEqual([count_cuttings(2, k) for k in range(1, 4)], [2, 3, 4])

    def test_small_ones_one_by_one(self):
        for n, k in sizes(10):
            cuttings = [pairs for pairs in combinations(long_diagonals(n, k), k * (n - 1)) if meant_cutting(k, pairs)]
            self.assertEqual(count_cuttings(n, k), len(cuttings))


class Flips(Cases):
    def test_all_diagonals_of_small_polygons(self):
        for n, k in sizes(10):
            lots = search_greatest(n, bubble(n, k), tuple(range(n)))
            known = long_diagonals(n, k)
            cuttings = [tuple([known[place] for place in lot]) for lot in lots]
            for pairs in cuttings:
                for pair in pairs:
                    rest = set(pairs) - {pair}
                    others = [one for one in cuttings if rest < set(one) and one != pairs]
                    self.assertEqual(len(others), 1)
                    new = (set(others[0]) - rest).pop()
                    self.assertEqual(flip(n, k, pairs, pair), (others[0], new))
                for pair in known:
                    if pair not in pairs:
                        self.refuses(NoDiagonal, flip, n, k, pairs, pair)

    def test_large_polygons(self):
        for n, k in ((7, 1), (5, 3), (7, 3)):
            word, goal = bubble(n, k), tuple(range(n))
            pairs = pairs_of(n, k, lot_at(n, word, goal, count_lots(n, word, goal) // 3))
            for pair in pairs:
                other, new = flip(n, k, pairs, pair)
                self.assertEqual(set(pairs) - set(other), {pair})
                self.assertEqual(set(other) - set(pairs), {new})
                self.answers((pairs, pair), flip, n, k, other, new)

    def test_not_greatest(self):
        for pairs in ((), ((0, 2),), ((0, 2), (1, 3)), PENTAGON):
            self.refuses(NotGreatest, flip, 3, 1, pairs, (0, 2))
            self.refuses(NotGreatest, flip, 3, 1, pairs, None)

    def test_no_diagonals_of_it(self):
        wrong = WRONG_DIAGONALS + [(1, 3), (1, 4), (2, 4)]
        self.refuses_each(NoDiagonal, flip, FUNCTIONS[flip], 3, wrong)


class WrongValues(Cases):
    def test_cards_and_times(self):
        for function, args in FUNCTIONS.items():
            self.refuses_each(BadCards, function, args, 0, WRONG_CARDS + [1])
            self.refuses_each(BadTimes, function, args, 1, WRONG_TIMES + [0])

    def test_pairs(self):
        for function in (is_cutting, lot_of, flip):
            self.refuses_each(BadPairs, function, FUNCTIONS[function], 2, WRONG_PAIRS)

    def test_lots(self):
        wrong = ODD + [0, (5,), (0, 5), (1, 0), (0, 0), [0, 1], "01", (0, True), (0, 2, 1), ((0, 2),)]
        self.refuses_each(BadLot, pairs_of, FUNCTIONS[pairs_of], 2, [lot for lot in wrong if lot != ()])

    def test_order(self):
        polygon = [(3, (1, BadCards), (8, BadCards)), (1, (0, BadTimes), (4, BadTimes))]
        pairs = (((0, 2), (0, 3)), ((0, 3), BadPairs))
        self.refuses_in_order(diagonal, *polygon, (0, (9, BadPlace)))
        self.refuses_in_order(place_of, *polygon, ((0, 2), ((0, 1), NoDiagonal)))
        self.refuses_in_order(count_cuttings, *polygon)
        self.refuses_in_order(is_cutting, *polygon, pairs)
        self.refuses_in_order(lot_of, *polygon, pairs)
        self.refuses_in_order(pairs_of, *polygon, ((0, 1), ((1, 0), BadLot)))
        self.refuses_in_order(flip, *polygon, (*pairs, (((0, 2),), NotGreatest)), ((0, 3), ((1, 3), NoDiagonal)))


if __name__ == "__main__":
    unittest.main()
