"""Points 24 to 26, and the orders of point 40: bricks, prices, touches and orders."""

import random
import unittest
from itertools import permutations

from helpers import (
    Cases, ODD, WORD_OF_3000, WORD_OF_3001, WRONG_CARDS, WRONG_GOALS_OF_3, WRONG_LOTS_OF_5, WRONG_WORDS_OF_3,
    all_deed_words, all_places, search_greatest, search_meets, search_run, search_tasks, turned_row,
)
from sturdysort.bricks import bricks, goes_down, is_ringless, least_worth, lot_for, orders_of, touches
from sturdysort.errors import BadCards, BadLot, BadOrder, BadPrices, BadWord, NotGreatest, SortsNotAll, TooLong, TooMany
from sturdysort.lots import count_lots, greatest_lots, lot_at
from sturdysort.strings import exchange, rises

WORD = (0, 1, 0, 1, 0)
SORTED = (0, 1, 2)
PRICES = (1, 1, 2)
TASK = [(3, (0, BadCards)), (WORD, ((2,), BadWord), ((0,) * 41, TooLong))]
SORTING = [(3, (0, BadCards)), (WORD, ((2,), BadWord), ((0,) * 41, TooLong), ((0, 1), SortsNotAll))]
GREATEST = ((0, 1), ((1, 0), BadLot), ((0,), NotGreatest))
FUNCTIONS = {
    bricks: [3, WORD, (0, 1)], least_worth: [3, WORD, PRICES], goes_down: [3, WORD, PRICES, (0, 1)],
    lot_for: [3, WORD, SORTED], touches: [3, WORD, (0, 1)], is_ringless: [3, WORD, (0, 1)],
    orders_of: [3, WORD, (0, 1)],
}
WRONG_PRICES_OF_3 = ODD + [0, (), (1,), (1, 2), (1, 2, 3, 4), [1, 2, 3], {1: 1, 2: 2, 3: 3}, "123", (1, 2, True),
                           (False, 1, 2), (None, 1, 2), (1, 2, "3"), (1, (2,), 3), (1, 2, 10 ** 6 + 1),
                           (-10 ** 6 - 1, 0, 0), (0, 10 ** 40, 0), (1, 2, [3]), ((1, 2, 3),)]


def end_tasks(seed):
    """Words and their ends."""
    found = []
    for n, word, _ in search_tasks(seed):
        task = (n, word, search_run(turned_row(n), word))
        if task not in found:
            found.append(task)
    return found


def sorting_tasks(seed):
    """Words that sort every row."""
    source = random.Random(seed)
    found = [(1, ()), (2, (0,)), (2, (0, 0, 0)), (3, (0, 1, 0)), (3, WORD), (4, (0, 1, 2, 0, 1, 0))]
    for n, length, many in ((3, 6, 8), (3, 9, 6), (4, 9, 10)):
        while many:
            word = tuple([source.randrange(n - 1) for _ in range(length)])
            if search_run(turned_row(n), word) == tuple(range(n)):
                found.append((n, word))
                many -= 1
    return found


def meant_bricks(n, word, lot):
    """Point 24's words."""
    counts = [0] * n
    for first, deed in enumerate(word):
        if deed in word[first + 1:]:
            row = list(turned_row(n))
            for place in range(first + 1):
                k = word[place]
                if place not in lot:
                    row[k], row[k + 1] = row[k + 1], row[k]
            for card in row[:deed + 1]:
                counts[card] += 1
    return tuple(counts)


def meant_worth(n, word, prices, lot):
    return sum([price * many for price, many in zip(prices, meant_bricks(n, word, lot))])


def meant_way_down(n, word, prices, lots, lot):
    """Point 25's words: lots, in their order, by exchanges."""
    worths = [meant_worth(n, word, prices, one) for one in lots]
    way = [lot]
    while True:
        here = worths[lots.index(way[-1])]
        near = [number for number, one in enumerate(lots) if len(set(one) - set(way[-1])) == 1]
        if not near or min([worths[number] for number in near]) >= here:
            return tuple(way)
        way.append(lots[min(near, key=lambda number: (worths[number], number))])


class Bricks(Cases):
    def test_all_greatest_lots(self):
        for n, word, goal in end_tasks(26):
            greatest = search_greatest(n, word, goal)
            for lot in greatest:
                self.assertEqual(bricks(n, word, lot), meant_bricks(n, word, lot))
                self.look_at_rises(n, word, goal, lot)
            for lot in all_places(len(word)):
                if lot not in greatest:
                    self.refuses(NotGreatest, bricks, n, word, lot)

    def look_at_rises(self, n, word, goal, lot):
        before = bricks(n, word, lot)
        for place in rises(n, word, goal, lot):
            other, _ = exchange(n, word, goal, lot, place)
            a, b = search_meets(n, word, lot)[place]
            changes = [new - old for old, new in zip(before, bricks(n, word, other))]
            self.assertGreaterEqual(changes[b], 1)
            self.assertEqual(changes[a], -changes[b])
            self.assertEqual([change for card, change in enumerate(changes) if card not in (a, b)], [0] * (n - 2))

    def test_few_deeds(self):
        self.answers((0,), bricks, 1, (), ())
        self.answers((0, 0, 0), bricks, 3, (), ())
        self.answers((0, 0, 0), bricks, 3, (0, 1), ())
        self.answers((1, 0), bricks, 2, (0, 0), (1,))
        self.answers((0, 1), bricks, 2, (0, 0), (0,))
        self.answers((1, 0, 1), bricks, 3, (1, 0, 1), ())
        self.refuses(NotGreatest, bricks, 2, (0, 0), ())
        self.refuses(NotGreatest, bricks, 2, (0, 0), (0, 1))

    def test_40_deeds(self):
        for works in (0, 17, 39):
            lot = tuple([place for place in range(40) if place != works])
            self.answers((39 - works, works), bricks, 2, (0,) * 40, lot)


class Prices(Cases):
    def test_all_greatest_lots(self):
        source = random.Random(27)
        for n, word, goal in end_tasks(28):
            lots = search_greatest(n, word, goal)
            for most in (1, 3, 10 ** 6):
                prices = tuple([source.randrange(-most, most + 1) for _ in range(n)])
                self.look_at(n, word, prices, lots, source.sample(lots, min(5, len(lots))))

    def look_at(self, n, word, prices, lots, starts):
        worths = [meant_worth(n, word, prices, lot) for lot in lots]
        least = min(worths)
        best = tuple([lot for lot, worth in zip(lots, worths) if worth == least])
        self.assertEqual(least_worth(n, word, prices), (least, best))
        for lot in starts:
            way = goes_down(n, word, prices, lot)
            self.assertEqual(way, meant_way_down(n, word, prices, lots, lot))
            self.assertIn(way[-1], best)

    def test_the_first_one_of_two_exchanges(self):
        ties = 0
        for n, word in sorting_tasks(29):
            lots = search_greatest(n, word, tuple(range(n)))
            for prices in ((0, 1, 0, 1)[:n], (1, 0, 1, 0)[:n], (-1, 0, 0, 1)[:n], (2, 2, 2, 0)[:n]):
                for lot in lots:
                    way = meant_way_down(n, word, prices, lots, lot)
                    self.assertEqual(goes_down(n, word, prices, lot), way)
                    near = [meant_worth(n, word, prices, one) for one in lots if len(set(one) - set(lot)) == 1]
                    ties += len(way) > 1 and near.count(min(near)) > 1
        self.assertGreater(ties, 20)

    def test_like_prices(self):
        self.answers((0, greatest_lots(3, WORD, SORTED)), least_worth, 3, WORD, (0, 0, 0))
        self.answers(((0, 1),), goes_down, 3, WORD, (0, 0, 0), (0, 1))
        self.answers((4 * 10 ** 6, greatest_lots(3, WORD, SORTED)), least_worth, 3, WORD, (10 ** 6,) * 3)
        self.answers((-4 * 10 ** 6, greatest_lots(3, WORD, SORTED)), least_worth, 3, WORD, (-10 ** 6,) * 3)

    def test_one_card_and_no_deeds(self):
        self.answers((0, ((),)), least_worth, 1, (), (5,))
        self.answers(((),), goes_down, 1, (), (5,), ())
        self.answers((0, ((),)), least_worth, 3, (), (1, 2, 3))

    def test_3000_and_3001_lots(self):
        n, word = WORD_OF_3000
        least, lots = least_worth(n, word, (0,) * n)
        self.assertEqual((least, len(lots)), (0, 3000))
        n, word = WORD_OF_3001
        self.refuses(TooMany, least_worth, n, word, (0,) * n, most=3000)
        self.refuses(BadPrices, least_worth, n, word, (0,) * (n + 1))
        lot = lot_at(n, word, tuple(range(n)), 3000)
        self.assertEqual(goes_down(n, word, (0, 1, 2, 3), lot)[-1], lot_at(n, word, tuple(range(n)), 0))
        self.answers((lot,), goes_down, n, word, (0,) * n, lot)

    def test_long_words(self):
        word = (0, 1, 2, 3, 4, 5) * 6 + (0, 1, 2, 3)
        goal = tuple(range(7))
        lot = lot_at(7, word, goal, count_lots(7, word, goal) - 1)
        way = goes_down(7, word, (-3, -2, -1, 0, 1, 2, 3), lot)
        self.assertEqual((way[0], way[-1]), (lot, lot_at(7, word, goal, 0)))
        self.answers(lot_at(7, word, goal, 0), lot_for, 7, word, goal)


class Orders(Cases):
    def test_all_orders(self):
        for n, word in sorting_tasks(30):
            goal = tuple(range(n))
            lots = search_greatest(n, word, goal)
            orders = {lot: [] for lot in lots}
            for order in permutations(range(n)):
                fitting = [lot for lot in lots if self.fits(n, word, lot, order)]
                self.assertEqual(len(fitting), 1)
                self.assertEqual(lot_for(n, word, order), fitting[0])
                orders[fitting[0]].append(order)
            for lot in lots:
                self.assertEqual(orders_of(n, word, lot), tuple(orders[lot]))
                self.assertIs(is_ringless(n, word, lot), bool(orders[lot]))
            self.look_at_others(n, word, lots)

    def fits(self, n, word, lot, order):
        pairs = search_meets(n, word, lot)
        return all(order.index(pairs[place][0]) < order.index(pairs[place][1]) for place in lot)

    def look_at_others(self, n, word, lots):
        for lot in all_places(len(word)):
            if lot not in lots:
                self.refuses(NotGreatest, orders_of, n, word, lot)

    def test_lots_without_orders(self):
        found = [lot for n, word in sorting_tasks(31) for lot in greatest_lots(n, word, tuple(range(n)))
                 if orders_of(n, word, lot) == ()]
        self.assertGreater(len(found), 5)

    def test_five_cards(self):
        word = (0, 1, 2, 3) * 4 + (0, 1, 2, 0, 1, 0)
        goal = (0, 1, 2, 3, 4)
        self.assertGreater(count_lots(5, word, goal), 3000)
        met = {}
        for order in permutations(range(5)):
            lot = lot_for(5, word, order)
            self.assertTrue(self.fits(5, word, lot, order))
            met.setdefault(lot, []).append(order)
        for lot, orders in met.items():
            self.assertEqual(orders_of(5, word, lot), tuple(orders))

    def test_one_card(self):
        self.answers((), lot_for, 1, (), (0,))
        self.answers(((0,),), orders_of, 1, (), ())

    def test_seven_cards(self):
        word = (0, 1, 2, 3, 4, 5) * 6 + (0, 1, 2, 3)
        source = random.Random(32)
        for _ in range(3):
            order = tuple(source.sample(range(7), 7))
            lot = lot_for(7, word, order)
            self.assertTrue(self.fits(7, word, lot, order))
            self.assertEqual(search_run(turned_row(7), word, lot), tuple(range(7)))
            self.assertIn(order, orders_of(7, word, lot))

    def test_all_deeds_work(self):
        word = (0, 1, 2, 0, 1, 0)
        self.answers(tuple(permutations(range(4))), orders_of, 4, word, ())
        self.answers((), lot_for, 4, word, (2, 0, 3, 1))


class Touches(Cases):
    def test_any_word_and_any_lot(self):
        for n, longest in ((1, 0), (2, 4), (3, 5), (4, 4)):
            for word in all_deed_words(n, longest):
                for lot in all_places(len(word)):
                    pairs = search_meets(n, word, lot)
                    meant = sorted(set([pairs[place] for place in lot]))
                    self.assertEqual(touches(n, word, lot), tuple(meant))
                    some_order = any(all(order.index(one) < order.index(other) for one, other in meant)
                                     for order in permutations(range(n)))
                    self.assertIs(is_ringless(n, word, lot), some_order)

    def test_rings(self):
        self.answers(((0, 1), (1, 0)), touches, 2, (0, 0, 0), (0, 2))
        self.answers(False, is_ringless, 2, (0, 0, 0), (0, 2))
        self.answers(((1, 0),), touches, 2, (0, 0, 0), (0, 1))
        self.answers(True, is_ringless, 2, (0, 0, 0), (0, 1))
        self.answers((), touches, 3, (), ())
        self.answers(True, is_ringless, 3, (), ())

    def test_rings_of_three(self):
        word = (0, 1, 0, 1, 0, 1, 0)
        found = []
        for lot in all_places(7):
            pairs = touches(3, word, lot)
            if not any(pair[::-1] in pairs for pair in pairs) and not is_ringless(3, word, lot):
                self.assertEqual(len(pairs), 3)
                found.append(lot)
        self.assertTrue(found)

    def test_40_deeds(self):
        self.answers(((1, 0),), touches, 2, (0,) * 40, tuple(range(40)))
        word = (0, 1, 2, 3, 4, 5) * 6
        meant = sorted(set([search_meets(7, word, tuple(range(36)))[place] for place in range(36)]))
        self.answers(tuple(meant), touches, 7, word, tuple(range(36)))
        self.answers(True, is_ringless, 7, word, tuple(range(36)))


class WrongValues(Cases):
    def test_cards_and_words(self):
        for function, args in FUNCTIONS.items():
            self.refuses_each(BadCards, function, args, 0, WRONG_CARDS)
            self.refuses_each(BadWord, function, args, 1, WRONG_WORDS_OF_3)
            self.refuses(TooLong, function, 3, (0, 1) * 20 + (0,), *args[2:], most=40)
            self.refuses(TooLong, function, 3, (0, 1) * 100, *args[2:], most=40)
            self.refuses(BadWord, function, 3, (0, 1) * 100 + (0,), *args[2:])

    def test_lots(self):
        for function in (bricks, goes_down, touches, is_ringless, orders_of):
            at = 3 if function is goes_down else 2
            self.refuses_each(BadLot, function, FUNCTIONS[function], at, WRONG_LOTS_OF_5)
        for function in (bricks, goes_down, orders_of):
            at = 3 if function is goes_down else 2
            wrong = [(), (0,), (0, 2), (0, 1, 2), (0, 1, 2, 3, 4)]
            self.refuses_each(NotGreatest, function, FUNCTIONS[function], at, wrong)

    def test_prices(self):
        self.refuses_each(BadPrices, least_worth, FUNCTIONS[least_worth], 2, WRONG_PRICES_OF_3)
        self.refuses_each(BadPrices, goes_down, FUNCTIONS[goes_down], 2, WRONG_PRICES_OF_3)

    def test_orders_and_words_that_sort_not_all(self):
        self.refuses_each(BadOrder, lot_for, FUNCTIONS[lot_for], 2, WRONG_GOALS_OF_3)
        for word in ((), (0,), (0, 1), (1, 0), (0, 0, 0, 1), (1, 1, 0, 0)):
            self.refuses(SortsNotAll, lot_for, 3, word, SORTED)
            self.refuses(SortsNotAll, lot_for, 3, word, (0, 1))
            self.refuses(SortsNotAll, orders_of, 3, word, ())
            self.refuses(SortsNotAll, orders_of, 3, word, (7,))

    def test_order(self):
        prices = (PRICES, ((1, 2), BadPrices))
        self.refuses_in_order(bricks, *TASK, GREATEST)
        self.refuses_in_order(least_worth, *TASK, prices)
        self.refuses_in_order(goes_down, *TASK, prices, GREATEST)
        self.refuses_in_order(lot_for, *SORTING, (SORTED, ((0, 1), BadOrder)))
        self.refuses_in_order(orders_of, *SORTING, GREATEST)
        for function in (touches, is_ringless):
            self.refuses_in_order(function, *TASK, ((), ((5,), BadLot)))


if __name__ == "__main__":
    unittest.main()
