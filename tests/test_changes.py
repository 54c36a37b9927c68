"""Points 33 and 34: changes of words, ways of changes between alike words, and words alike by swaps alone."""

import random
import unittest
from itertools import permutations, product
from math import comb, factorial

from helpers import (
    Cases, ODD, WRONG_CARDS, WRONG_WORDS_OF_3, all_deed_words, exactly, search_run, turned_row,
)
from sturdysort.changes import changed, changes_of, count_swapped, first_swapped, is_led, is_swapped, led
from sturdysort.errors import BadCards, BadChange, BadWord, NotAlike, TooLong
from sturdysort.words import are_alike, end, least_word

KINDS = ("braid", "double", "drop", "swap")
CHANGE = (4, (0, 2, 1, 2, 2), ("braid", 1))
WRONG_CHANGES = ODD + [
    (), ("swap",), ("swap", 0, 0), ["swap", 0], [("swap", 0)], (("swap", 0),), "swap", ("swap", "0"), ("swap", None),
    ("swap", True), ("swap", False), ("swap", (0,)), ("swap", [0]), ("Swap", 0), ("swap ", 0), ("swaps", 0), ("", 0),
    (0, "swap"), (None, 0), (True, 0), ((), 0), (["swap"], 0), (("swap",), 0), ({"swap": 0}, 0), {"swap": 0}, (0, 0),
    ("swap", -1), ("swap", 5), ("swap", 10 ** 40), ("double", -1), ("double", 5), ("double", 6), ("double", True),
    ("double", False), ("double", None), ("double", 10 ** 40), ("double", -10 ** 40), ("drop", False), ("braid", True),
    ("drop", 4), ("braid", 3), ("braid", 4), ("swap", 4), ("back", 0), ("lift", 1), ("swap", 1), ("drop", 0),
    ("braid", 0), ("braid", 2), ("braid", -3), ("drop", -2), ("swap", -5),
]
# Words of 4 cards at every kind of neighbours, all with at most 6 deeds.
SHORT = [(1, ())] + [(2, word) for word in all_deed_words(2, 4)] + [(3, word) for word in all_deed_words(3, 5)] + \
    [(4, word) for word in all_deed_words(4, 5)] + [(5, word) for word in all_deed_words(5, 4)]


def meant_change(word, kind, at):
    """Point 33's words: the word behind a change; None if the word doesn't let it."""
    deeds = list(word)
    if kind == "swap" and at + 1 < len(deeds) and abs(deeds[at] - deeds[at + 1]) >= 2:
        deeds[at], deeds[at + 1] = deeds[at + 1], deeds[at]
        return tuple(deeds)
    if kind == "braid" and at + 2 < len(deeds) and deeds[at] == deeds[at + 2] and abs(deeds[at] - deeds[at + 1]) == 1:
        k, l = deeds[at], deeds[at + 1]
        deeds[at:at + 3] = [l, k, l]
        return tuple(deeds)
    if kind == "drop" and at + 1 < len(deeds) and deeds[at] == deeds[at + 1]:
        del deeds[at]
        return tuple(deeds)
    if kind == "double" and at < len(deeds):
        deeds.insert(at, deeds[at])
        return tuple(deeds)
    return None


def follow(word, changes):
    """The word behind changes; None if one of them isn't let or goes beyond 200 deeds."""
    for kind, at in changes:
        word = meant_change(word, kind, at)
        if word is None or len(word) > 200:
            return None
    return word


def some_changes(source, word, many):
    """Changes that a word lets one behind another, of all four kinds."""
    found = []
    for _ in range(many):
        choices = [(kind, at) for kind in KINDS for at in range(len(word)) if meant_change(word, kind, at) is not None]
        if not choices:
            break
        # Words shall not grow without end.
        kinds = [kind for kind in {one for one, _ in choices} if kind != "double" or len(word) < 12]
        if not kinds:
            break
        kind = source.choice(sorted(kinds))
        change = source.choice([one for one in choices if one[0] == kind])
        found.append(change)
        word = meant_change(word, *change)
    return tuple(found), word


class Changes(Cases):
    def test_every_place_of_short_words(self):
        for n, word in SHORT:
            let = [(kind, at) for kind in KINDS for at in range(len(word)) if meant_change(word, kind, at) is not None]
            told = tuple(sorted([change for change in let if change[0] != "double"]))
            self.assertEqual(exactly(changes_of(n, word)), exactly(told))
            for change in product(KINDS, range(-1, len(word) + 2)):
                if change in let:
                    later = changed(n, word, change)
                    self.assertEqual(exactly(later), exactly(meant_change(word, *change)))
                    self.assertEqual(search_run(turned_row(n), later), search_run(turned_row(n), word))
                else:
                    with self.assertRaises(BadChange):
                        changed(n, word, change)

    def test_no_change_alters_what_a_word_does_to_any_row(self):
        source = random.Random(33)
        for _ in range(100):
            n = source.randrange(2, 6)
            word = tuple([source.randrange(n - 1) for _ in range(source.randrange(1, 9))])
            changes, later = some_changes(source, word, 10)
            self.assertIs(is_led(n, word, later, changes), True)
            self.assertTrue(are_alike(n, word, later))
            for row in permutations(range(n)):
                self.assertEqual(search_run(row, word), search_run(row, later))

    def test_each_kind(self):
        self.answers((2, 0, 1, 2, 2), changed, 4, (0, 2, 1, 2, 2), ("swap", 0))
        self.answers((0, 1, 2, 1, 2), changed, 4, (0, 2, 1, 2, 2), ("braid", 1))
        self.answers((0, 2, 1, 2), changed, 4, (0, 2, 1, 2, 2), ("drop", 3))
        self.answers((0, 0, 2, 1, 2, 2), changed, 4, (0, 2, 1, 2, 2), ("double", 0))
        self.answers((0, 2, 1, 2, 2, 2), changed, 4, (0, 2, 1, 2, 2), ("double", 4))
        self.answers((1, 0, 1), changed, 3, (0, 1, 0), ("braid", 0))
        self.answers((0, 1, 0), changed, 3, (1, 0, 1), ("braid", 0))
        self.answers((("braid", 0), ("braid", 1)), changes_of, 3, (0, 1, 0, 1))
        self.answers((("drop", 0), ("drop", 1)), changes_of, 2, (0, 0, 0))
        self.answers((("swap", 0), ("swap", 1)), changes_of, 7, (5, 0, 3))

    def test_ascending_as_tuples(self):
        word = (0, 2, 4) * 3 + (4,) * 3 + (3, 4)
        told = changes_of(6, word)
        self.assertEqual([kind for kind, _ in told], ["braid"] + ["drop"] * 3 + ["swap"] * 8)
        self.assertEqual(list(told), sorted(told))
        # From ten places on it matters that places are compared as integers.
        self.assertEqual([at for kind, at in told if kind == "drop"], [8, 9, 10])

    def test_no_deeds_and_one_card(self):
        for n in range(1, 8):
            self.answers((), changes_of, n, ())
            for kind in KINDS:
                self.refuses(BadChange, changed, n, (), (kind, 0))
        self.answers((), changes_of, 3, (1,))
        self.answers((1, 1), changed, 3, (1,), ("double", 0))

    def test_199_and_200_deeds(self):
        for length in (199, 200):
            word = (0, 1, 0, 3, 3) * 39 + (0, 1, 0, 3, 3)[:length - 195]
            told = changes_of(5, word)
            meant = [(kind, at) for kind in KINDS for at in range(length)
                     if kind != "double" and meant_change(word, kind, at) is not None]
            self.assertEqual(told, tuple(sorted(meant)))
            for change in told[::17]:
                self.answers(meant_change(word, *change), changed, 5, word, change)
        for at in (0, 77, 198):
            self.assertEqual(len(changed(3, (0, 1) * 99 + (0,), ("double", at))), 200)
        for at in (0, 77, 199):
            self.refuses(TooLong, changed, 3, (0, 1) * 100, ("double", at), most=200)
        self.refuses(BadChange, changed, 3, (0, 1) * 100, ("double", 200))
        self.refuses(BadChange, changed, 3, (0, 1) * 100, ("double", -1))
        self.refuses(BadChange, changed, 3, (0, 1) * 100, ("double", True))
        self.refuses(BadChange, changed, 3, (0, 1) * 99 + (0,), ("double", 199))
        self.answers((0,) * 199, changed, 2, (0,) * 200, ("drop", 198))
        self.answers((0, 1, 0) + (0,) * 197, changed, 3, (1, 0, 1) + (0,) * 197, ("braid", 0))

    def test_wrong_values(self):
        self.refuses_each(BadCards, changes_of, [3, (0, 1)], 0, WRONG_CARDS)
        self.refuses_each(BadWord, changes_of, [3, (0, 1)], 1, WRONG_WORDS_OF_3)
        self.refuses_each(BadCards, changed, [3, (0, 1), ("double", 0)], 0, WRONG_CARDS)
        self.refuses_each(BadWord, changed, [3, (0, 1), ("double", 0)], 1, WRONG_WORDS_OF_3)
        self.refuses_each(BadChange, changed, [*CHANGE], 2, WRONG_CHANGES)

    def test_order(self):
        self.refuses_in_order(changes_of, (3, (0, BadCards)), ((0,), ((2,), BadWord)))
        self.refuses_in_order(changed, (3, (0, BadCards)), ((0, 1), ((2,), BadWord)),
                              (("double", 0), (("swap", 0), BadChange)))


class IsLed(Cases):
    def test_ways_of_all_kinds(self):
        source = random.Random(34)
        for _ in range(200):
            n = source.randrange(2, 8)
            word = tuple([source.randrange(n - 1) for _ in range(source.randrange(1, 9))])
            changes, later = some_changes(source, word, 8)
            self.answers(True, is_led, n, word, later, changes)
            self.look_at_bent_ones(n, word, later, changes)

    def look_at_bent_ones(self, n, word, later, changes):
        """Too few, too many, in another order, and others instead of those."""
        bent = [changes[:at] + changes[at + 1:] for at in range(len(changes))]
        bent += [changes[:at] + (changes[at],) + changes[at:] for at in range(len(changes))]
        bent += [changes[::-1], (*changes, ("double", 0)), (*changes, ("drop", 0))]
        bent += [changes[:at] + (other,) + changes[at + 1:] for at in range(len(changes))
                 for other in (("swap", 0), ("braid", 1), ("drop", 0), ("double", 1), ("drop", 99))]
        for tried in bent:
            self.assertIs(is_led(n, word, later, tried), follow(word, tried) == later)
        self.assertIs(is_led(n, word, later[1:], changes), False)

    def test_values_of_every_kind(self):
        right = (("braid", 0),)
        self.answers(True, is_led, 3, (0, 1, 0), (1, 0, 1), right)
        for value in ODD + [[("braid", 0)], (["braid", 0],), ("braid", 0), {("braid", 0): 0}, (("braid", 0), None),
                            (("braid", False),), (("braid", 0), ()), ((("braid", 0),),), ({},), "braid 0", (None,)]:
            self.answers(False, is_led, 3, (0, 1, 0), (1, 0, 1), value)
        for value in WRONG_CHANGES:
            self.answers(False, is_led, *CHANGE[:2], CHANGE[1], (value,))
            self.answers(False, is_led, *CHANGE[:2], CHANGE[1], (("double", 0), value, ("drop", 0)))

    def test_no_changes(self):
        self.answers(True, is_led, 3, (0, 1), (0, 1), ())
        self.answers(True, is_led, 1, (), (), ())
        self.answers(False, is_led, 3, (0, 1), (1, 0), ())
        self.answers(False, is_led, 3, (0, 0), (0,), ())
        self.answers(False, is_led, 3, (0, 0), (0, 0), [])

    def test_drops_and_doubles(self):
        self.answers(True, is_led, 2, (0,), (0,), (("double", 0), ("double", 1), ("drop", 0), ("drop", 0)))
        self.answers(True, is_led, 2, (0,) * 3, (0,), (("drop", 1), ("drop", 0)))
        self.answers(False, is_led, 2, (0,) * 3, (0,), (("drop", 1), ("drop", 1)))
        self.answers(False, is_led, 2, (0,), (), (("drop", 0),))

    def test_words_of_200_deeds(self):
        word = (0, 1) * 100
        self.answers(True, is_led, 3, word, word, (("braid", 0), ("braid", 0)))
        self.answers(False, is_led, 3, word, word, (("double", 0), ("drop", 0)))
        self.answers(True, is_led, 3, word[:199], word[:199], (("double", 0), ("drop", 0)))
        self.answers(False, is_led, 3, word[:199], word[:199], (("double", 0), ("double", 0), ("drop", 0), ("drop", 0)))
        self.answers(True, is_led, 2, (0,), (0,) * 200, (("double", 0),) * 199)
        self.answers(True, is_led, 2, (0,) * 200, (0,), (("drop", 0),) * 199)
        self.answers(False, is_led, 2, (0,) * 200, (0,), (("drop", 0),) * 198)
        self.answers(False, is_led, 2, (0,) * 200, (0,), (("drop", 0),) * 200)
        self.answers(True, is_led, 2, (0,) * 7, (0,) * 7, (("double", 0), ("drop", 0)) * 500)

    def test_wrong_values(self):
        for function, args in ((is_led, [3, (0, 1), (0, 1), ()]), (is_swapped, [3, (0, 1), (0, 1)])):
            self.refuses_each(BadCards, function, args, 0, WRONG_CARDS)
            self.refuses_each(BadWord, function, args, 1, WRONG_WORDS_OF_3)
            self.refuses_each(BadWord, function, args, 2, WRONG_WORDS_OF_3)

    def test_order(self):
        words = (3, (0, BadCards)), ((0, 1), ((2,), BadWord)), ((1, 0), ([1], BadWord))
        self.refuses_in_order(is_led, *words, ((),))
        self.refuses_in_order(is_led, *words, (None,))
        self.refuses_in_order(is_swapped, *words)


class Led(Cases):
    def leads(self, n, word, other):
        changes = led(n, word, other)
        self.assertEqual(follow(word, changes), other)
        self.assertIs(is_led(n, word, other, changes), True)
        return changes

    def test_all_pairs_of_short_words(self):
        for n, longest in ((1, 0), (2, 4), (3, 5), (4, 4), (5, 3)):
            words = all_deed_words(n, longest)
            ends = [search_run(turned_row(n), word) for word in words]
            for word, its_end in zip(words, ends):
                for other, other_end in zip(words, ends):
                    if its_end == other_end:
                        self.leads(n, word, other)
                    else:
                        with self.assertRaises(NotAlike):
                            led(n, word, other)

    def test_longer_words_of_five_cards(self):
        source = random.Random(35)
        for _ in range(150):
            n = source.choice([3, 4, 5, 5])
            word = tuple([source.randrange(n - 1) for _ in range(source.randrange(41))])
            # Another word with the same end: a shortest one with deeds put to it that do nothing.
            other = list(least_word(n, word))
            while len(other) < 40:
                at = source.randrange(len(other) + 1)
                grown = other[:at] + [source.randrange(n - 1)] + other[at:]
                if search_run(turned_row(n), grown) == search_run(turned_row(n), word):
                    other = grown
                elif not other or source.random() < 0.02:
                    break
            self.leads(n, word, tuple(other))
            self.leads(n, tuple(other), word)
            self.leads(n, word, least_word(n, word))

    def test_far_from_shortest(self):
        self.leads(5, (0,) * 40, (0,))
        self.leads(5, (0,), (0,) * 40)
        self.leads(5, (0, 1, 2, 3) * 10, (3, 2, 1, 0) * 10)
        self.leads(5, (3, 2, 1, 0) * 10, (0, 1, 0, 2, 1, 0, 3, 2, 1, 0))
        self.leads(5, (0, 2) * 20, (2, 0))
        self.leads(5, (0, 3) * 20, (3,) * 20 + (0,) * 20)
        self.leads(5, (3, 2, 3, 1, 2, 3, 0, 1, 2, 3), (0, 1, 0, 2, 1, 0, 3, 2, 1, 0))
        self.leads(3, (0, 1) * 20, (1, 0) * 20)
        self.leads(2, (0,) * 40, (0,) * 39)

    def test_the_same_word(self):
        for word in ((), (0,), (3, 2, 1, 0), (0, 1, 2, 3) * 10):
            self.leads(5, word, word)
        self.leads(1, (), ())

    def test_nothing_changes_and_equal_calls_have_equal_answers(self):
        for n, word, other in ((5, (0, 1, 2, 3) * 10, (3, 2, 1, 0) * 10), (4, (2, 0, 0), (0, 2)), (1, (), ())):
            self.answers(led(n, word, other), led, n, word, other)

    def test_not_alike(self):
        self.refuses(NotAlike, led, 3, (0, 1), (1, 0))
        self.refuses(NotAlike, led, 3, (), (0,))
        self.refuses(NotAlike, led, 5, (0, 1, 2, 3) * 2, (3, 2, 1, 0) * 10)
        self.refuses(NotAlike, led, 5, (0,) * 40, (1,) * 40)

    def test_cards(self):
        self.refuses_each(BadCards, led, [3, (0, 1), (0, 1)], 0, WRONG_CARDS + [6, 7])
        for n in (6, 7):
            self.refuses(BadCards, led, n, (), ())
            self.refuses(BadCards, led, n, (0, n - 2), (0, n - 2))
            self.refuses(BadCards, led, n, (0,) * 41, (99,))

    def test_words(self):
        for at in (1, 2):
            self.refuses_each(BadWord, led, [3, (0, 1), (0, 1)], at, WRONG_WORDS_OF_3)
        for length in (41, 100, 200):
            self.refuses(TooLong, led, 5, (0,) * length, (0,), most=40)
            self.refuses(TooLong, led, 5, (0,), (0,) * length, most=40)
            self.refuses(TooLong, led, 5, (1,), (0,) * length, most=40)
        self.refuses(BadWord, led, 5, (0,) * 201, (0,))
        self.refuses(BadWord, led, 5, (0,), (0,) * 201)

    def test_order(self):
        words = (0, 1, 0), ((2,), BadWord), ((0,) * 41, TooLong)
        self.refuses_in_order(led, (3, (0, BadCards), (6, BadCards)), words,
                              ((1, 0, 1), ([1], BadWord), ((1,) * 41, TooLong), ((0,), NotAlike)))


def swapped_words(word):
    """All words that swaps alone lead to."""
    found = {word}
    fresh = [word]
    while fresh:
        later = [meant_change(one, "swap", at) for one in fresh for at in range(len(one))]
        fresh = sorted({one for one in later if one is not None and one not in found})
        found.update(fresh)
    return found


class Swaps(Cases):
    def test_all_short_words(self):
        for n, word in SHORT + [(6, word) for word in all_deed_words(6, 3)]:
            reached = swapped_words(word)
            self.assertEqual(count_swapped(n, word), len(reached))
            self.assertEqual(first_swapped(n, word), min(reached))

    def test_all_pairs_of_short_words(self):
        for n, longest in ((1, 0), (2, 3), (3, 4), (4, 4), (5, 3), (7, 2)):
            words = all_deed_words(n, longest)
            for word in words:
                reached = swapped_words(word)
                for other in words:
                    self.assertIs(is_swapped(n, word, other), other in reached)

    def test_longer_words(self):
        source = random.Random(36)
        for _ in range(60):
            n = source.choice([4, 5, 6, 7])
            word = tuple([source.randrange(n - 1) for _ in range(9)])
            reached = swapped_words(word)
            self.assertEqual(count_swapped(n, word), len(reached))
            self.assertEqual(first_swapped(n, word), min(reached))
            for other in source.sample(sorted(reached), min(5, len(reached))):
                self.assertIs(is_swapped(n, word, other), True)
                at = source.randrange(8)
                bent = other[:at] + (other[at + 1], other[at]) + other[at + 2:]
                self.assertIs(is_swapped(n, word, bent), bent in reached)

    def test_alike_but_not_by_swaps_alone(self):
        self.answers(False, is_swapped, 3, (0, 1, 0), (1, 0, 1))
        self.answers(False, is_swapped, 3, (0, 0), (0,))
        self.answers(False, is_swapped, 3, (0, 1), (1, 0))
        self.answers(False, is_swapped, 4, (0, 2, 2), (0, 0, 2))
        self.answers(False, is_swapped, 4, (0, 1, 2), (2, 0, 1))
        self.answers(True, is_swapped, 4, (0, 2, 1), (2, 0, 1))
        self.answers(True, is_swapped, 4, (2, 0, 0), (0, 0, 2))
        self.answers(False, is_swapped, 4, (), (0,))
        self.answers(True, is_swapped, 1, (), ())

    def test_is_swapped_for_200_deeds(self):
        self.answers(True, is_swapped, 7, (0, 5) * 100, (5,) * 100 + (0,) * 100)
        self.answers(False, is_swapped, 7, (0, 5) * 100, (5,) * 101 + (0,) * 99)
        self.answers(True, is_swapped, 7, (0, 3) * 50 + (5, 0) * 50, (3,) * 50 + (5,) * 50 + (0,) * 100)
        self.answers(False, is_swapped, 7, (0, 4) * 50 + (5, 0) * 50, (5,) * 50 + (4,) * 50 + (0,) * 100)
        self.answers(True, is_swapped, 7, (0, 1, 2, 3, 4, 5) * 33, (0, 1, 2, 3, 4, 5) * 33)

    def test_24_deeds_and_great_counts(self):
        self.answers(comb(24, 12), count_swapped, 4, (0, 2) * 12)
        self.answers(comb(24, 1), count_swapped, 7, (5,) + (0,) * 23)
        self.answers(factorial(24) // factorial(8) ** 3, count_swapped, 7, (0, 2, 4) * 8)
        self.answers(factorial(24) // factorial(8) ** 3, count_swapped, 7, (5,) * 8 + (1,) * 8 + (3,) * 8)
        self.answers((0,) * 8 + (2,) * 8 + (4,) * 8, first_swapped, 7, (4, 2, 0) * 8)
        self.answers((0,) * 12 + (2,) * 12, first_swapped, 4, (2, 0) * 12)
        self.answers(1, count_swapped, 3, (0, 1) * 12)
        self.answers((1, 0) * 12, first_swapped, 3, (1, 0) * 12)
        word = (0, 1, 2, 3, 4, 5) * 4
        least = first_swapped(7, word)
        self.assertLess(least, word)
        self.answers(True, is_swapped, 7, word, least)
        self.assertEqual(count_swapped(7, word), count_swapped(7, least))
        self.answers(least, first_swapped, 7, least)

    def test_the_least_word_can_need_later_deeds(self):
        self.answers((0, 3, 2, 3), first_swapped, 5, (3, 2, 0, 3))
        self.answers((1, 0, 3, 2), first_swapped, 5, (3, 1, 2, 0))
        self.answers((1, 0, 3, 2), first_swapped, 5, (1, 3, 0, 2))

    def test_25_deeds(self):
        for function in (count_swapped, first_swapped):
            for length in (25, 26, 40, 41, 200):
                self.refuses(TooLong, function, 4, ((0, 2) * 100)[:length], most=24)
                self.refuses(TooLong, function, 2, (0,) * length, most=24)
            self.refuses(BadWord, function, 2, (0,) * 201)
            self.refuses(BadWord, function, 2, (1,) * 25)

    def test_no_deeds_and_one_card(self):
        for n in range(1, 8):
            self.answers(1, count_swapped, n, ())
            self.answers((), first_swapped, n, ())
            self.answers(True, is_swapped, n, (), ())

    def test_wrong_values(self):
        for function in (count_swapped, first_swapped):
            self.refuses_each(BadCards, function, [3, (0, 1)], 0, WRONG_CARDS)
            self.refuses_each(BadWord, function, [3, (0, 1)], 1, WRONG_WORDS_OF_3)
            self.refuses_in_order(function, (3, (0, BadCards)), ((0,), ((2,), BadWord), ((0,) * 25, TooLong)))


class Together(Cases):
    def test_what_swaps_lead_to_is_alike_and_led(self):
        source = random.Random(37)
        for _ in range(60):
            n = source.randrange(3, 6)
            word = tuple([source.randrange(n - 1) for _ in range(source.randrange(2, 12))])
            first = first_swapped(n, word)
            self.assertIs(is_swapped(n, word, first), True)
            self.assertEqual(end(n, word), end(n, first))
            self.assertIs(is_led(n, word, first, led(n, word, first)), True)


if __name__ == "__main__":
    unittest.main()
