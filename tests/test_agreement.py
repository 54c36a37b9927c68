"""What the document tells of how functions of all modules agree, over drawn words, lots, goals and chances."""

import random
import unittest
from fractions import Fraction
from itertools import combinations, permutations
from math import comb

from helpers import Cases, all_places, all_rows, share_of, some_chances
from sturdysort.bricks import bricks, goes_down, is_ringless, least_worth, lot_for, orders_of, touches
from sturdysort.bychance import behind, expected
from sturdysort.chances import chance, chance_numbers, least_harms, sturdy, worth
from sturdysort.changes import changed, changes_of, count_swapped, first_swapped, is_led, is_swapped, led
from sturdysort.coming import chances_of_ends, ends
from sturdysort.compiling import rounds, word_of
from sturdysort.desks import Desk, desk_of
from sturdysort.errors import Harms, NeverSorted, NoWay, NotAlike, NotGreatest, SortsNotAll
from sturdysort.faults import fitting, lots_by_end, parting_row
from sturdysort.lighting import jumps, lamps, row_of, run_lamps, unsorted_bounds
from sturdysort.lots import count_lots, fail_counts, greatest_lots, idle, is_harmless, lot_at, number_of, vital
from sturdysort.mending import mending, spots
from sturdysort.papers import judged, paper
from sturdysort.polygons import (
    bubble, count_cuttings, diagonal, flip, is_cutting, lot_of, pairs_of, place_of,
)
from sturdysort.printing import cards_of, printed
from sturdysort.quick import quickest
from sturdysort.rows import can_come, in_order, no_less_sorted, out_pairs, run, stretch, turned, way
from sturdysort.shelling import above, f_numbers, fixed, h_numbers, is_sphere, stretch_of
from sturdysort.strings import exchange, falls, least_steps, meets, rises, way_of_lots
from sturdysort.wearing import cheapest, strengthened, survival, wear
from sturdysort.words import all_words, are_alike, count_words, end, lacking, least_word, scattered, sorts_all

NEVER = (0, 1)
SURELY = (1, 1)


def some_word(source, most_cards=5, longest=10):
    """A number of cards and a word for it."""
    n = source.choice([1, 2, *range(3, most_cards + 1), *range(3, most_cards + 1)])
    return n, some_deeds(source, n, source.randrange(longest + 1))


def some_deeds(source, n, length):
    return tuple([source.randrange(n - 1) for _ in range(length)]) if n > 1 else ()


def some_lot(source, word):
    return tuple(sorted(source.sample(range(len(word)), source.randrange(len(word) + 1))))


def some_row(source, n):
    return tuple(source.sample(range(n), n))


def some_goal(source, n, word):
    """A goal of any kind: the sorted row, the word's end, one that it goes beyond, or any row."""
    part = tuple([deed for deed in word if source.random() < 0.7])
    return source.choice([in_order(n), end(n, word), end(n, part), end(n, part), some_row(source, n)])


def tasks(seed, many=60, most_cards=5, longest=10):
    """Drawn words with goals."""
    source = random.Random(seed)
    found = []
    for _ in range(many):
        n, word = some_word(source, most_cards, longest)
        found.append((source, n, word, some_goal(source, n, word)))
    return found


def reached_tasks(seed, many=40, longest=9):
    """Drawn words with goals that they reach."""
    return [task for task in tasks(seed, 2 * many, 5, longest) if scattered(*task[1:]) is not None][:many]


def left_of(word, lot):
    return tuple([deed for place, deed in enumerate(word) if place not in lot])


def outside(word, places):
    return tuple([place for place in range(len(word)) if place not in places])


def number(share):
    return Fraction(*share)


class Rows(Cases):
    def test_3_what_can_come(self):
        source = random.Random(3)
        for _ in range(200):
            n = source.randrange(1, 6)
            row = some_row(source, n)
            other = source.choice([some_row(source, n), run(row, some_deeds(source, n, 4), ())])
            comes = can_come(row, other)
            self.assertIs(comes, set(out_pairs(other)) <= set(out_pairs(row)))
            if comes:
                word = way(row, other)
                self.assertEqual(run(row, word, ()), other)
                self.assertEqual(len(word), len(out_pairs(row)) - len(out_pairs(other)))
            else:
                self.refuses(NoWay, way, row, other)

    def test_4_stretches(self):
        source = random.Random(4)
        for _ in range(60):
            n = source.randrange(1, 6)
            row, other = some_row(source, n), some_row(source, n)
            between = stretch(row, other)
            self.assertIs(between == (), not no_less_sorted(other, row))
            meant = [one for one in all_rows(n) if no_less_sorted(one, row) and no_less_sorted(other, one)]
            self.assertEqual(between, tuple(meant))
            # What comes of a row is no less sorted than it.
            if can_come(row, other):
                self.assertTrue(no_less_sorted(other, row))

    def test_7_programs_printed(self):
        texts = ["cards 4 part go(k){sort k}for i up 0 to (cards)-2{do go(i*(1+0))}",
                 "cards 7 for t up 1 to cards{for k up 0 to cards-1-t{sort k}}",
                 "cards 5 beside{sort 0 sort 1}{sort 3}back{sort 0 sort 1}mirror{sort - -0}",
                 "cards 6 part a(x,y){sort x-y back{sort(y)}}do a(4,1)for i down 4 to 2*1{do a(i,i-2+1)}"]
        for text in texts:
            again = printed(text)
            self.assertEqual(printed(again), again)
            self.assertEqual((cards_of(again), word_of(again)), (cards_of(text), word_of(text)))

    def test_8_rounds(self):
        for _, n, word, _ in tasks(8):
            told = rounds(n, word)
            beside = tuple([word[place] for places in told for place in places])
            self.assertTrue(is_swapped(n, word, beside))
            self.assertTrue(are_alike(n, word, beside))


class Words(Cases):
    def test_9_alike(self):
        source = random.Random(9)
        for _ in range(80):
            n = source.randrange(1, 5)
            one, other = [some_deeds(source, n, source.randrange(7)) for _ in range(2)]
            same = all(run(row, one, ()) == run(row, other, ()) for row in all_rows(n))
            self.assertIs(are_alike(n, one, other), same)
            self.assertIs(end(n, one) == end(n, other), same)
            every = all(run(row, one, ()) == in_order(n) for row in all_rows(n))
            self.assertIs(sorts_all(n, one), every)
            self.assertIs(end(n, one) == in_order(n), every)

    def test_10_shortest_words(self):
        for _, n, word, goal in tasks(10):
            least = least_word(n, word)
            self.assertTrue(are_alike(n, word, least))
            self.assertEqual(least, way(turned(n), end(n, word)))
            self.assertTrue(sorts_all(n, word + lacking(n, word)))
            self.assertEqual(len(least) + len(lacking(n, word)), n * (n - 1) // 2)
            self.assertIs(lacking(n, word) == (), sorts_all(n, word))
            words = all_words(goal)
            self.assertEqual((len(words), words[0]), (count_words(goal), way(turned(n), goal)))
            self.assertIn(least, all_words(end(n, word)))

    def test_11_reaching(self):
        for _, n, word, goal in tasks(11, 150):
            places = scattered(n, word, goal)
            self.assertIs(places is not None, no_less_sorted(end(n, word), goal))
            if places is not None:
                self.assertIn(tuple([word[place] for place in places]), all_words(goal))


class Lots(Cases):
    def test_main_sentence(self):
        for source, n, word, _ in tasks(1, 60, 4):
            for _ in range(4):
                lot = some_lot(source, word)
                left = left_of(word, lot)
                sorts = all(run(row, word, lot) == in_order(n) for row in all_rows(n))
                self.assertIs(run(turned(n), word, lot) == in_order(n), sorts)
                self.assertIs(scattered(n, left, in_order(n)) is not None, sorts)
                self.assertIs(is_harmless(n, word, in_order(n), lot), sorts)
                self.assertIs(sorts_all(n, left), sorts)
                self.assertIs(unsorted_bounds(n, word, lot) == (), sorts)

    def test_12_harmless(self):
        for source, n, word, goal in tasks(12, 100):
            lot = some_lot(source, word)
            harmless = is_harmless(n, word, goal, lot)
            self.assertIs(harmless, no_less_sorted(run(turned(n), word, lot), goal))
            self.assertIs(harmless, scattered(n, left_of(word, lot), goal) is not None)
            if harmless:
                fewer = tuple([place for place in lot if source.random() < 0.6])
                self.assertTrue(is_harmless(n, word, goal, fewer))

    def test_13_numbers(self):
        for source, n, word, goal in tasks(13):
            lots = greatest_lots(n, word, goal)
            self.assertEqual(count_lots(n, word, goal), len(lots))
            self.assertIs(lots == (), not is_harmless(n, word, goal, ()))
            for at, lot in enumerate(lots):
                self.assertEqual((lot_at(n, word, goal, at), number_of(n, word, goal, lot)), (lot, at))
                self.assertIn(left_of(word, lot), all_words(goal))
            self.assertLessEqual(len({len(lot) for lot in lots}), 1)
            lot = some_lot(source, word)
            within = any(set(lot) <= set(one) for one in lots)
            self.assertIs(is_harmless(n, word, goal, lot), within)

    def test_14_counts(self):
        for _, n, word, goal in tasks(14):
            lots = greatest_lots(n, word, goal)
            counts = fail_counts(n, word, goal)
            self.assertEqual(sum(counts), sum([len(lot) for lot in lots]))
            for place, count in enumerate(counts):
                self.assertEqual(count, len([lot for lot in lots if place in lot]))
                self.assertIs(place in idle(n, word, goal), bool(lots) and count == len(lots))
                self.assertIs(place in vital(n, word, goal), bool(lots) and count == 0)
                if lots:
                    self.assertIs(place in vital(n, word, goal), not is_harmless(n, word, goal, (place,)))


class Strings(Cases):
    def test_15_no_two_pass_twice(self):
        for _, n, word, goal in reached_tasks(15):
            for lot in greatest_lots(n, word, goal):
                pairs = [frozenset(pair) for place, pair in enumerate(meets(n, word, lot)) if place not in lot]
                self.assertEqual(len(pairs), len(set(pairs)))

    def test_16_exchanges(self):
        for _, n, word, goal in reached_tasks(16):
            lots = greatest_lots(n, word, goal)
            risen = []
            for lot in lots:
                met = meets(n, word, lot)
                self.assertEqual(set(rises(n, word, goal, lot)) & set(falls(n, word, goal, lot)), set())
                for place in lot:
                    told = exchange(n, word, goal, lot, place)
                    moving = place in rises(n, word, goal, lot) + falls(n, word, goal, lot)
                    self.assertIs(told is not None, moving)
                    if told is not None:
                        other, partner = told
                        self.assertEqual(exchange(n, word, goal, other, partner), (lot, place))
                        self.assertEqual(set(met[place]), set(met[partner]))
                        self.assertIs(place in rises(n, word, goal, lot), partner > place)
                        risen += [other] if partner > place else []
            self.assertEqual(len([lot for lot in lots if lot not in risen]), 1)
            self.assertEqual(len([lot for lot in lots if not rises(n, word, goal, lot)]), 1)

    def test_17_ways(self):
        for source, n, word, goal in reached_tasks(17):
            lots = greatest_lots(n, word, goal)
            one, other = source.choice(lots), source.choice(lots)
            told = way_of_lots(n, word, goal, one, other)
            self.assertEqual((told[0], told[-1], len(told) - 1), (one, other, least_steps(n, word, goal, one, other)))
            self.assertEqual(least_steps(n, word, goal, other, one), len(told) - 1)
            for lot, later in zip(told, told[1:]):
                place = min(set(lot) - set(later))
                self.assertEqual(exchange(n, word, goal, lot, place)[0], later)


class Shelling(Cases):
    def test_19_stretches(self):
        for source, n, word, goal in reached_tasks(19):
            lots = greatest_lots(n, word, goal)
            lot = some_lot(source, word)
            if is_harmless(n, word, goal, lot):
                whole = above(n, word, goal, lot)
                self.assertEqual(stretch_of(n, word, goal, lot), whole[0])
                self.assertEqual(whole, tuple([one for one in lots if set(lot) <= set(one)]))
                within = [one for one in whole if set(fixed(n, word, goal, one)) <= set(lot)]
                self.assertEqual(within, [whole[0]])
            else:
                self.refuses(Harms, stretch_of, n, word, goal, lot)
            for one in lots:
                self.assertEqual(fixed(n, word, goal, one), rises(n, word, goal, one))
                for place in one:
                    facet = tuple([at for at in one if at != place])
                    many = len(above(n, word, goal, facet))
                    self.assertEqual(many, 1 if exchange(n, word, goal, one, place) is None else 2)
                    self.assertIn(many, (2,) if is_sphere(n, word, goal) else (1, 2))

    def test_20_numbers(self):
        for _, n, word, goal in tasks(20):
            h, f = h_numbers(n, word, goal), f_numbers(n, word, goal)
            lots = greatest_lots(n, word, goal)
            self.assertEqual(sum(h), len(lots))
            self.assertEqual(f[-1:], (len(lots),) if lots else ())
            self.assertEqual(len(h), len(lots[0]) + 1 if lots else 0)
            for k, many in enumerate(f):
                harmless = [lot for lot in combinations(range(len(word)), k) if is_harmless(n, word, goal, lot)]
                self.assertEqual(len(harmless), many)
            self.assertIs(is_sphere(n, word, goal), end(n, word) == goal)
            if is_sphere(n, word, goal):
                self.assertEqual(h, h[::-1])


class Chances(Cases):
    def test_21_chances(self):
        for source, n, word, goal in tasks(21):
            chances = some_chances(source, len(word))
            total = Fraction(0)
            for lot in greatest_lots(n, word, goal):
                part = Fraction(1)
                for place, share in enumerate(chances):
                    if place not in lot:
                        part *= 1 - number(share)
                    elif place in fixed(n, word, goal, lot):
                        part *= number(share)
                self.assertGreaterEqual(part, 0)
                total += part
            self.assertEqual(chance(n, word, goal, chances), share_of(total))
            # The same by what can come of the turned row.
            comes = chances_of_ends(turned(n), word, chances)
            fine = [number(share) for row, share in comes.items() if no_less_sorted(row, goal)]
            self.assertEqual(sum(fine, Fraction(0)), total)

    def test_22_numbers_of_q_and_worth(self):
        for source, n, word, goal in tasks(22):
            q = source.choice([NEVER, SURELY, (1, 2), (1, 3), (7, 9)])
            numbers = chance_numbers(n, word, goal)
            at_q = sum([count * number(q) ** k for k, count in enumerate(numbers)], Fraction(0))
            self.assertEqual(chance(n, word, goal, (q,) * len(word)), share_of(at_q))
            self.assertNotEqual(numbers[-1:], (0,))
            chances = some_chances(source, len(word))
            for place in range(len(word)):
                parts = [number(chance(n, word, goal, (*chances[:place], share, *chances[place + 1:])))
                         for share in (NEVER, SURELY)]
                self.assertEqual(number(worth(n, word, goal, chances, place)), parts[0] - parts[1])

    def test_23_least_harms(self):
        for source, n, word, goal in tasks(23):
            harms = least_harms(n, word, goal)
            lot = some_lot(source, word)
            self.assertIs(is_harmless(n, word, goal, lot), not any(set(one) <= set(lot) for one in harms))
            for one in harms:
                for place in one:
                    self.assertTrue(is_harmless(n, word, goal, tuple([at for at in one if at != place])))
            most = sturdy(n, word, goal)
            self.assertEqual(most, min([len(one) - 1 for one in harms], default=len(word)))
            self.assertIs(most == -1, scattered(n, word, goal) is None)
            f = f_numbers(n, word, goal)
            whole = [k for k, many in enumerate(f) if many == comb(len(word), k)]
            self.assertEqual(most, len(whole) - 1)


class Bricks(Cases):
    def test_24_and_25_bricks_and_prices(self):
        for source, n, word, _ in tasks(24, 40, 5, 9):
            goal = end(n, word)
            lots = greatest_lots(n, word, goal)
            prices = tuple([source.randrange(-9, 10) for _ in range(n)])
            worths = [sum([price * many for price, many in zip(prices, bricks(n, word, lot))]) for lot in lots]
            least, best = least_worth(n, word, prices)
            self.assertEqual(least, min(worths))
            self.assertEqual(best, tuple([lot for lot, one in zip(lots, worths) if one == least]))
            self.assertLessEqual(len({sum(bricks(n, word, lot)) for lot in lots}), 1)
            for lot in lots:
                self.assertIn(goes_down(n, word, prices, lot)[-1], best)
                self.look_at_rises(n, word, goal, lot)

    def look_at_rises(self, n, word, goal, lot):
        for place in rises(n, word, goal, lot):
            front, back = meets(n, word, lot)[place]
            pairs = zip(bricks(n, word, lot), bricks(n, word, exchange(n, word, goal, lot, place)[0]))
            changes = [new - old for old, new in pairs]
            self.assertGreaterEqual(changes[back], 1)
            self.assertEqual(changes[front], -changes[back])
            self.assertEqual(len([change for change in changes if change]), 2)

    def test_26_and_40_orders(self):
        for _, n, word, _ in tasks(26, 60, 4, 10):
            goal = in_order(n)
            if not sorts_all(n, word):
                self.refuses(SortsNotAll, lot_for, n, word, goal)
                continue
            met = []
            for lot in greatest_lots(n, word, goal):
                orders = orders_of(n, word, lot)
                self.assertIs(orders != (), is_ringless(n, word, lot))
                met += orders
                for order in orders:
                    self.assertEqual(lot_for(n, word, order), lot)
                    self.assertTrue(all(order.index(a) < order.index(b) for a, b in touches(n, word, lot)))
            self.assertEqual(sorted(met), list(permutations(range(n))))

    def test_26_rings(self):
        for source, n, word, _ in tasks(27, 100, 4):
            lot = some_lot(source, word)
            pairs = touches(n, word, lot)
            self.assertEqual(pairs, tuple(sorted({meets(n, word, lot)[place] for place in lot})))
            some = any(all(order.index(a) < order.index(b) for a, b in pairs) for order in all_rows(n))
            self.assertIs(is_ringless(n, word, lot), some)


class Polygons(Cases):
    def test_27_28_and_40_cuttings(self):
        source = random.Random(28)
        for n, k in ((2, 1), (2, 3), (3, 1), (3, 2), (4, 1), (4, 2), (5, 1), (6, 1), (7, 3)):
            word, goal = bubble(n, k), in_order(n)
            self.assertTrue(is_sphere(n, word, goal))
            self.assertEqual(count_cuttings(n, k), count_lots(n, word, goal))
            for place in range(len(word)):
                self.assertEqual(place_of(n, k, diagonal(n, k, place)), place)
            for _ in range(10):
                lot = tuple(sorted(source.sample(range(len(word)), source.randrange(min(len(word), 3 * k) + 1))))
                pairs = pairs_of(n, k, lot)
                self.assertEqual(lot_of(n, k, pairs), lot)
                self.assertIs(is_cutting(n, k, pairs), is_harmless(n, word, goal, lot))
            lot = lot_at(n, word, goal, source.randrange(count_cuttings(n, k)))
            pairs = pairs_of(n, k, lot)
            for place, pair in zip(lot, pairs):
                other, partner = exchange(n, word, goal, lot, place)
                self.assertEqual(flip(n, k, pairs, pair), (pairs_of(n, k, other), diagonal(n, k, partner)))
            self.refuses(NotGreatest, flip, n, k, pairs[1:], pairs[0])


class PapersAndDesks(Cases):
    def test_29_what_can_come(self):
        for source, n, word, _ in tasks(29):
            self.assertEqual(ends(turned(n), word), stretch(turned(n), end(n, word)))
            row = some_row(source, n)
            chances = some_chances(source, len(word))
            told = chances_of_ends(row, word, chances)
            self.assertLessEqual(set(told), set(ends(row, word)))
            self.assertEqual(sum([number(share) for share in told.values()]), 1)
            self.assertTrue(all(share[0] for share in told.values()))
            self.assertIn(run(row, word, some_lot(source, word)), ends(row, word))
            if all(share not in (NEVER, SURELY) for share in chances):
                self.assertEqual(tuple(sorted(told)), ends(row, word))

    def test_30_papers(self):
        for source, n, word, goal in tasks(30, 100):
            lot, other = some_lot(source, word), some_lot(source, word)
            told = paper(n, word, goal, lot)
            self.assertIs(told[0] == "fine", is_harmless(n, word, goal, lot))
            self.assertTrue(judged(n, word, goal, lot, told))
            if told[0] == "fine":
                places = scattered(n, left_of(word, lot), goal)
                self.assertEqual(told[1], tuple([outside(word, lot)[at] for at in places]))
                self.assertEqual(outside(word, told[1]), stretch_of(n, word, goal, lot))
            # No paper of the other kind shows what it tells.
            self.assertFalse(judged(n, word, goal, lot, paper(n, word, goal, other))
                             and paper(n, word, goal, other)[0] != told[0])

    def test_31_and_32_desks(self):
        for source, n, word, goal in tasks(31):
            states = [source.choice(["open", "open", "sure", "lost"]) for _ in word]
            desk = Desk(n, word, goal)
            for place, state in enumerate(states):
                desk.mark(place, state)
            lost = tuple([place for place, state in enumerate(states) if state == "lost"])
            well = is_harmless(n, word, goal, lost)
            self.assertIs(desk.is_well(), well)
            harming = [place for place, state in enumerate(states)
                       if state == "open" and not is_harmless(n, word, goal, tuple(sorted((*lost, place))))]
            self.assertEqual(desk.harmed_by(), tuple(harming) if well else ())
            self.look_at_chances(desk, n, word, goal, states)
            self.assertEqual(desk_of(desk.text()).text(), desk.text())

    def look_at_chances(self, desk, n, word, goal, states):
        kinds = {"open": (1, 3), "sure": NEVER, "lost": SURELY}
        chances = tuple([kinds[state] for state in states])
        self.assertEqual(desk.chance((1, 3)), chance(n, word, goal, chances))
        # Lost deeds fail for sure; of the open ones as few as can be are needed.
        lost = {place for place, state in enumerate(states) if state == "lost"}
        spare = [len([place for place in lot if states[place] == "open"]) for lot in greatest_lots(n, word, goal)
                 if lost <= set(lot)]
        self.assertEqual(desk.spare(), max(spare, default=-1))


class Changes(Cases):
    def test_33_no_change_alters_the_end(self):
        for source, n, word, _ in tasks(33):
            told = changes_of(n, word)
            doubles = [("double", at) for at in range(len(word))]
            for change in (*told, *doubles):
                later = changed(n, word, change)
                self.assertTrue(are_alike(n, word, later))
                self.assertTrue(is_led(n, word, later, (change,)))
                self.assertIs(is_swapped(n, word, later), change[0] == "swap")

    def test_34_alike_exactly_if_led(self):
        source = random.Random(34)
        alike = 0
        for _ in range(300):
            n = source.randrange(1, 6)
            one, other = [some_deeds(source, n, source.randrange(8)) for _ in range(2)]
            if are_alike(n, one, other):
                self.assertTrue(is_led(n, one, other, led(n, one, other)))
                alike += 1
            else:
                self.refuses(NotAlike, led, n, one, other)
            self.assertIs(is_swapped(n, one, other), first_swapped(n, one) == first_swapped(n, other))
        self.assertGreater(alike, 30)

    def test_34_shortest_words_and_swaps(self):
        for _, n, word, goal in tasks(35, 30):
            self.assertTrue(is_led(n, word, least_word(n, word), led(n, word, least_word(n, word))))
            # Shortest words fall into heaps, each led to by swaps alone.
            heaps = {}
            for one in all_words(goal):
                heaps.setdefault(first_swapped(n, one), []).append(one)
            for least, heap in heaps.items():
                self.assertEqual((least, len(heap)), (heap[0], count_swapped(n, least)))
                self.assertTrue(is_swapped(n, least, heap[-1]))

    def test_35_quickest(self):
        for _, n, word, _ in tasks(36):
            told = quickest(n, word)
            flat = tuple([deed for deeds in told for deed in deeds])
            self.assertIn(flat, all_words(end(n, word)))
            self.assertEqual(len(told), min([len(rounds(n, one)) for one in all_words(end(n, word))]))


class Lamps(Cases):
    def test_36_a_run_of_a_row_is_that_of_its_lamps(self):
        for source, n, word, _ in tasks(37, 100):
            row, lot = some_row(source, n), some_lot(source, word)
            later = run(row, word, lot)
            for bound in range(n + 1):
                self.assertEqual(run_lamps(lamps(row, bound), word, lot), lamps(later, bound))
            self.assertEqual(row_of(tuple([lamps(row, bound) for bound in range(1, n)])), row)
            # Each exchange of two cards is one of lamps for each of the bounds between them.
            sunk = [high - low for high, low in set(out_pairs(row)) - set(out_pairs(later))]
            self.assertEqual(sum([jumps(lamps(row, bound), word, lot) for bound in range(1, n)]), sum(sunk))

    def test_37_bounds(self):
        for source, n, word, _ in tasks(38, 150):
            lot = some_lot(source, word)
            bounds = unsorted_bounds(n, word, lot)
            self.assertIs(bounds == (), sorts_all(n, left_of(word, lot)))
            self.assertIs(bounds == (), is_harmless(n, word, in_order(n), lot))
            for bound in range(1, n):
                lit = run_lamps(lamps(turned(n), bound), word, lot)
                self.assertIs(bound in bounds, lit != lamps(in_order(n), bound))


class Faults(Cases):
    def test_38_one_run_tells_all(self):
        for source, n, word, _ in tasks(39, 60, 4, 8):
            most = source.randrange(4)
            told = lots_by_end(n, word, most)
            self.assertLessEqual(set(told), set(ends(turned(n), word)))
            rows = {lot: row for row, lots in told.items() for lot in lots}
            for lot, row in rows.items():
                self.assertEqual(run(turned(n), word, lot), row)
            for _ in range(10):
                one, other = source.choice(sorted(rows)), source.choice(sorted(rows))
                parted = parting_row(n, word, one, other)
                self.assertIs(parted is None, rows[one] == rows[other])
                self.assertIs(parted is None, are_alike(n, left_of(word, one), left_of(word, other)))
            lot = source.choice(sorted(rows))
            self.assertEqual(fitting(n, word, most, ((turned(n), rows[lot]),)), told[rows[lot]])
            pairs = tuple([(row, run(row, word, lot)) for row in all_rows(n)])
            self.assertEqual(fitting(n, word, most, pairs), told[rows[lot]])

    def test_39_draws(self):
        source = random.Random(40)
        for _ in range(60):
            n = source.randrange(2, 6)
            parts = [source.randrange(4) for _ in range(n - 1)]
            if not any(parts):
                continue
            draws = tuple([share_of(Fraction(part, sum(parts))) for part in parts])
            row = some_row(source, n)
            drawn = tuple([deed for deed, part in enumerate(parts) if part])
            sorts = run(row, drawn * 10, ()) == in_order(n)
            if not sorts:
                self.refuses(NeverSorted, expected, row, draws)
                continue
            # The sum of the chances that the row isn't sorted behind 0, 1, 2, .. draws is the number expected.
            unsorted = [1 - number(behind(row, draws, times).get(in_order(n), NEVER)) for times in range(13)]
            self.assertLessEqual(sum(unsorted), number(expected(row, draws)))
            self.assertIs(expected(row, draws) == NEVER, row == in_order(n))
            if row != in_order(n):
                later = behind(row, draws, 1)
                means = [number(share) * number(expected(one, draws)) for one, share in later.items()]
                self.assertEqual(number(expected(row, draws)), 1 + sum(means))
            for times in (1, 2, 3):
                self.assertLessEqual(set(behind(row, draws, times)), set(all_rows(n)))
                self.assertTrue(all(can_come(row, one) for one in behind(row, draws, times)))


class Wear(Cases):
    def test_41_cheapest(self):
        for source, n, word, goal in tasks(41):
            costs = tuple([source.randrange(5) for _ in word])
            told = cheapest(n, word, goal, costs)
            self.assertIs(told is None, scattered(n, word, goal) is None)
            if told is not None:
                lots = greatest_lots(n, word, goal)
                meant = min([(sum([costs[place] for place in outside(word, lot)]), outside(word, lot)) for lot in lots])
                self.assertEqual(told, meant)
                self.assertTrue(is_harmless(n, word, goal, outside(word, told[1])))
                self.assertEqual(cheapest(n, word, goal, (0,) * len(word)), (0, scattered(n, word, goal)))

    def test_42_survival_and_wear(self):
        for _, n, word, goal in tasks(42):
            f = f_numbers(n, word, goal)
            shares = [number(survival(n, word, goal, many)) for many in range(len(word) + 1)]
            for many, share in enumerate(shares):
                self.assertEqual(share * comb(len(word), many), f[many] if many < len(f) else 0)
                self.assertIs(share == 1, many <= sturdy(n, word, goal))
            mean = number(wear(n, word, goal))
            self.assertEqual(mean, sum(shares))
            self.assertIs(mean == len(word) + 1, least_harms(n, word, goal) == ())
            self.assertIs(mean == 0, scattered(n, word, goal) is None)
            # Of many deeds, each failing with chance q, so many fail with a told chance.
            q = Fraction(2, 5)
            parts = [comb(len(word), k) * q ** k * (1 - q) ** (len(word) - k) * share for k, share in enumerate(shares)]
            self.assertEqual(chance(n, word, goal, ((2, 5),) * len(word)), share_of(sum(parts)))

    def test_43_strengthened(self):
        for source, n, word, goal in tasks(43, 40, 5, 7):
            chances = some_chances(source, len(word))
            costs = tuple([source.randrange(4) for _ in word])
            wanted = source.choice([NEVER, SURELY, (1, 2), (4, 5)])
            told = strengthened(n, word, goal, chances, costs, wanted)
            held = number(chance(n, word, goal, chances))
            self.assertIs(told is None, scattered(n, word, goal) is None and wanted != NEVER)
            if held >= number(wanted):
                self.assertEqual(told, (0, ()))
            if told is not None:
                for lot in all_places(len(word)):
                    sure = tuple([NEVER if place in lot else share for place, share in enumerate(chances)])
                    enough = number(chance(n, word, goal, sure)) >= number(wanted)
                    key = sum([costs[place] for place in lot]), len(lot), lot
                    least = told[0], len(told[1]), told[1]
                    self.assertTrue(key >= least if enough else key != least)

    def test_44_mending_and_spots(self):
        for source, n, word, goal in tasks(44, 150):
            lot = some_lot(source, word)
            left = left_of(word, lot)
            told = mending(n, word, goal, lot)
            harmless = is_harmless(n, word, goal, lot)
            self.assertIs(told == (), harmless)
            self.assertTrue(is_harmless(n, left + told, goal, ()))
            if harmless:
                self.assertEqual(spots(n, word, goal, lot), ())
                continue
            self.assertFalse(is_harmless(n, left + told[:-1], goal, ()))
            self.assertLessEqual(len(told), len(lacking(n, left)))
            for place in range(len(word) + 1):
                for deed in range(n - 1):
                    grown = (*word[:place], deed, *word[place:])
                    failing = tuple([at + (at >= place) for at in lot])
                    mends = is_harmless(n, grown, goal, failing)
                    self.assertIs((place, deed) in spots(n, word, goal, lot), mends)
            behind_all = [deed for place, deed in spots(n, word, goal, lot) if place == len(word)]
            self.assertIs(len(told) == 1, behind_all != [])
            desk = Desk(n, word, goal)
            for place in lot:
                desk.mark(place, "lost")
            self.assertFalse(desk.is_well())
            for place, deed in spots(n, word, goal, lot)[:3]:
                desk.put(place, deed)
                self.assertTrue(desk.is_well())
                desk.undo()


if __name__ == "__main__":
    unittest.main()
