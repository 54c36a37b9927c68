"""Points 15 to 18: cards as strings, exchanges, ways of exchanges, and drawings."""

import random
import unittest
from itertools import combinations

from helpers import (
    Cases, WRONG_CARDS, WRONG_GOALS_OF_3, WRONG_INTEGERS, WRONG_LOTS_OF_5, WRONG_WORDS_OF_3, all_deed_words, all_places,
    all_rows, search_greatest, search_meets, search_run,
)
from sturdysort.errors import BadCards, BadGoal, BadLot, BadPlace, BadWord, NotGreatest, TooLong, TooMany
from sturdysort.lots import greatest_lots, lot_at
from sturdysort.strings import drawn, exchange, falls, least_steps, meets, rises, way_of_lots

WORD = (0, 1, 0, 1, 0)
SORTED = (0, 1, 2)
TASK = [(3, (0, BadCards)), (WORD, ((2,), BadWord), ((0,) * 41, TooLong)), (SORTED, ((0, 1), BadGoal))]
LOTS = ((0, 1), ((1, 0), BadLot), ((0,), NotGreatest))
OTHERS = ((3, 4), ((5,), BadLot), ((), NotGreatest))
FUNCTIONS = {
    exchange: [3, WORD, SORTED, (0, 1), 1], rises: [3, WORD, SORTED, (0, 1)], falls: [3, WORD, SORTED, (0, 1)],
    least_steps: [3, WORD, SORTED, (0, 1), (3, 4)], way_of_lots: [3, WORD, SORTED, (0, 1), (3, 4)],
}


def tasks():
    """Words and goals that the words reach, to be searched through."""
    found = []
    for n, longest in ((1, 0), (2, 4), (3, 5), (4, 2)):
        found += [(n, word, goal) for word in all_deed_words(n, longest) for goal in all_rows(n)]
    source = random.Random(6)
    for _ in range(12):
        word = tuple([source.randrange(3) for _ in range(9)])
        found += [(4, word, goal) for goal in [source.choice(all_rows(4)), search_run((3, 2, 1, 0), word)]]
    return found


class Meets(Cases):
    def test_lots_of_every_kind(self):
        for n, longest in ((1, 0), (2, 4), (3, 5), (4, 3)):
            for word in all_deed_words(n, longest):
                for lot in all_places(len(word)):
                    self.assertEqual(meets(n, word, lot), search_meets(n, word, lot))

    def test_cards_pass_in_order_or_not(self):
        self.answers(((1, 0), (0, 1), (1, 0)), meets, 2, (0, 0, 0), ())
        self.answers(((1, 0), (0, 1), (0, 1)), meets, 2, (0, 0, 0), (1,))
        self.answers((), meets, 1, (), ())
        self.answers(((1, 0),) * 40, meets, 2, (0,) * 40, tuple(range(40)))

    def test_no_two_cards_pass_twice_in_a_greatest_lot(self):
        for n, word, goal in tasks():
            for lot in search_greatest(n, word, goal):
                pairs = [set(pair) for place, pair in enumerate(meets(n, word, lot)) if place not in lot]
                self.assertTrue(all(one != other for one, other in combinations(pairs, 2)))


class Exchanges(Cases):
    def test_all_greatest_lots(self):
        found = {True: 0, False: 0}
        for n, word, goal in tasks():
            greatest = search_greatest(n, word, goal)
            for lot in greatest:
                self.look_at(n, word, goal, lot, greatest, found)
        self.assertGreater(min(found.values()), 50)

    def look_at(self, n, word, goal, lot, greatest, found):
        partners = {}
        for place in lot:
            others = [other for other in greatest if len(set(lot) - set(other)) == 1 and place not in other]
            self.assertLessEqual(len(others), 1)
            meant = None
            if others:
                partners[place] = min(set(others[0]) - set(lot))
                meant = (others[0], partners[place])
            self.assertEqual(exchange(n, word, goal, lot, place), meant)
            found[bool(others)] += 1
        self.assertEqual(rises(n, word, goal, lot), tuple([place for place in lot if partners.get(place, -1) > place]))
        self.assertEqual(falls(n, word, goal, lot), tuple([place for place in lot if partners.get(place, 99) < place]))

    def test_just_one_lot_has_no_rise_and_one_no_fall(self):
        for n, word, goal in tasks():
            lots = greatest_lots(n, word, goal)
            if lots:
                self.assertEqual([lot for lot in lots if not rises(n, word, goal, lot)], [lots[0]])
                self.assertEqual(len([lot for lot in lots if not falls(n, word, goal, lot)]), 1)

    def test_none(self):
        self.answers(None, exchange, 3, (0, 1, 0), (1, 2, 0), (0, 1), 1)
        self.answers(((1, 2), 2), exchange, 3, (0, 1, 0), (1, 2, 0), (0, 1), 0)
        self.answers((0,), rises, 3, (0, 1, 0), (1, 2, 0), (0, 1))
        self.answers((2,), falls, 3, (0, 1, 0), (1, 2, 0), (1, 2))
        self.answers((), rises, 3, (0, 1, 0), (0, 1, 2), ())

    def test_wrong_places(self):
        args = FUNCTIONS[exchange]
        self.refuses_each(BadPlace, exchange, args, 4, WRONG_INTEGERS + [2, 3, 4, 5, -1])
        self.refuses(BadPlace, exchange, 3, (0, 1, 0), SORTED, (), 0)


def search_ways(lots, lot, other):
    """All ways of fewest exchanges from a lot to another one."""
    ways = [(lot,)]
    while True:
        done = [way for way in ways if way[-1] == other]
        if done:
            return done
        ways = [(*way, near) for way in ways for near in lots
                if len(set(near) - set(way[-1])) == 1 and near not in way]


class Ways(Cases):
    def test_all_ways(self):
        source = random.Random(8)
        for n, word, goal in tasks():
            lots = search_greatest(n, word, goal)
            pairs = [(lot, other) for lot in lots for other in lots]
            for lot, other in source.sample(pairs, min(4, len(pairs))):
                ways = search_ways(lots, lot, other)
                first = min(ways, key=lambda way: [lots.index(one) for one in way])
                self.assertEqual(way_of_lots(n, word, goal, lot, other), first)
                self.assertEqual(least_steps(n, word, goal, lot, other), len(first) - 1)

    def test_all_pairs_of_a_pentagon_and_of_a_hexagon(self):
        for word in (WORD, (0, 1, 0, 1, 0, 1), (1, 1, 0, 1, 0, 1)):
            lots = search_greatest(3, word, SORTED)
            for lot in lots:
                for other in lots:
                    ways = search_ways(lots, lot, other)
                    first = min(ways, key=lambda way: [lots.index(one) for one in way])
                    self.answers(first, way_of_lots, 3, word, SORTED, lot, other)
                    self.answers(len(first) - 1, least_steps, 3, word, SORTED, lot, other)

    def test_to_itself(self):
        self.answers(0, least_steps, 3, WORD, SORTED, (0, 1), (0, 1))
        self.answers(((0, 1),), way_of_lots, 3, WORD, SORTED, (0, 1), (0, 1))
        self.answers(0, least_steps, 1, (), (0,), (), ())
        self.answers(((),), way_of_lots, 1, (), (0,), (), ())

    def test_3000_and_3001_lots(self):
        goal = search_run((4, 3, 2, 1, 0), (0, 1, 2, 3))
        word = (0,) * 10 + (1,) * 10 + (2,) * 6 + (3,) * 5
        first, last = [tuple([place for place in range(31) if place not in places])
                       for places in ((0, 10, 20, 26), (9, 19, 25, 30))]
        self.answers(4, least_steps, 5, word, goal, first, last)
        word = (0,) * 7 + (1, 0, 1, 1, 2) + (1,) * 6 + (2,) * 5 + (3, 3, 2, 3, 3, 3, 3, 0, 3)
        lot = lot_at(5, word, goal, 3000)
        for function in (least_steps, way_of_lots):
            self.refuses(TooMany, function, 5, word, goal, lot, lot_at(5, word, goal, 0), most=3000)
            self.refuses(TooMany, function, 5, word, goal, lot, lot, most=3000)
            self.refuses(NotGreatest, function, 5, word, goal, lot, ())
            self.refuses(BadLot, function, 5, word, goal, lot, (40,))
        self.assertGreater(len(falls(5, word, goal, lot) + rises(5, word, goal, lot)), 0)

    def test_many_lots(self):
        word = (0, 1, 2) * 4
        goal = (0, 1, 2, 3)
        lots = greatest_lots(4, word, goal)
        way = way_of_lots(4, word, goal, lots[-1], lots[0])
        self.assertEqual((way[0], way[-1]), (lots[-1], lots[0]))
        self.assertEqual(least_steps(4, word, goal, lots[-1], lots[0]), len(way) - 1)
        for one, near in zip(way, way[1:]):
            self.assertEqual(len(set(one) - set(near)), 1)


class WrongValues(Cases):
    def test_each_parameter(self):
        for function, args in FUNCTIONS.items():
            self.refuses_each(BadCards, function, args, 0, WRONG_CARDS)
            self.refuses_each(BadWord, function, args, 1, WRONG_WORDS_OF_3)
            self.refuses_each(BadGoal, function, args, 2, WRONG_GOALS_OF_3)
            self.refuses_each(BadLot, function, args, 3, WRONG_LOTS_OF_5)
            self.refuses_each(NotGreatest, function, args, 3, [(), (0,), (0, 2), (0, 1, 2), (0, 1, 2, 3, 4)])
        for function in (least_steps, way_of_lots):
            self.refuses_each(BadLot, function, FUNCTIONS[function], 4, WRONG_LOTS_OF_5)
            self.refuses_each(NotGreatest, function, FUNCTIONS[function], 4, [(), (0,), (0, 2), (0, 1, 2)])
        for function in (meets, drawn):
            args = [3, WORD, (0, 1)]
            self.refuses_each(BadCards, function, args, 0, WRONG_CARDS)
            self.refuses_each(BadWord, function, args, 1, WRONG_WORDS_OF_3)
            self.refuses_each(BadLot, function, args, 2, WRONG_LOTS_OF_5)

    def test_40_and_41_deeds(self):
        for function, args in FUNCTIONS.items():
            self.refuses(TooLong, function, 3, (0,) * 41, *args[2:], most=40)
            self.refuses(BadWord, function, 3, (0,) * 201, *args[2:])
        for function in (meets, drawn):
            function(3, (0,) * 40, ())
            self.refuses(TooLong, function, 3, (0,) * 41, (), most=40)

    def test_order(self):
        self.refuses_in_order(exchange, *TASK, LOTS, (1, (2, BadPlace)))
        self.refuses_in_order(rises, *TASK, LOTS)
        self.refuses_in_order(falls, *TASK, LOTS)
        self.refuses_in_order(least_steps, *TASK, LOTS, OTHERS)
        self.refuses_in_order(way_of_lots, *TASK, LOTS, OTHERS)
        self.refuses_in_order(meets, *TASK[:2], ((), ((5,), BadLot)))
        self.refuses_in_order(drawn, *TASK[:2], ((), ((5,), BadLot)))

    def test_a_goal_that_is_not_reached(self):
        self.refuses(NotGreatest, exchange, 3, (0, 1), SORTED, (0,), 0)
        self.refuses(NotGreatest, rises, 3, (0, 1), SORTED, ())
        self.refuses(NotGreatest, least_steps, 3, (0, 1), SORTED, (), ())


def meant_drawing(n, word, lot):
    """Point 18's words, sign by sign on a field of blanks."""
    field = [[" "] * (4 * len(word) + 1) for _ in range(2 * n - 1)]
    for at in range(len(word) + 1):
        cards = list(range(n))[::-1]
        for place, k in enumerate(word[:at]):
            if place not in lot:
                cards[k], cards[k + 1] = cards[k + 1], cards[k]
        for place, card in enumerate(cards):
            field[2 * place][4 * at] = str(card)
    for at, k in enumerate(word):
        field[2 * k + 1][4 * at + 2] = "=" if at in lot else "x"
    return "".join(["".join(line).rstrip() + "\n" for line in field])


class Drawings(Cases):
    def test_all_short_words_and_lots(self):
        for n, longest in ((1, 0), (2, 3), (3, 4), (4, 3)):
            for word in all_deed_words(n, longest):
                for lot in all_places(len(word)):
                    self.assertEqual(drawn(n, word, lot), meant_drawing(n, word, lot))

    def test_no_deeds_and_one_card(self):
        self.answers("0\n", drawn, 1, (), ())
        self.answers("2\n\n1\n\n0\n", drawn, 3, (), ())

    def test_failing_deeds(self):
        self.answers("1   1   0   1\n  =   x   x\n0   0   1   0\n", drawn, 2, (0, 0, 0), (0,))
        self.answers("1   1   1\n  =   =\n0   0   0\n", drawn, 2, (0, 0), (0, 1))
        self.answers("2   2   1\n      x\n1   1   2\n  =\n0   0   0\n", drawn, 3, (1, 0), (0,))

    def test_long_words(self):
        self.assertEqual(drawn(7, (0, 1, 2, 3, 4, 5) * 6, (3, 5)), meant_drawing(7, (0, 1, 2, 3, 4, 5) * 6, (3, 5)))


if __name__ == "__main__":
    unittest.main()
