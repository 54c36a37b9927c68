"""Point 38: lots of few deeds, and what runs tell of the lot that failed."""

import random
import unittest
from itertools import combinations

from helpers import (
    Cases, ODD, WRONG_CARDS, WRONG_LOTS_OF_5, WRONG_ROWS, WRONG_TIMES, WRONG_WORDS_OF_3, all_deed_words, all_places,
    all_rows, exactly, search_run, turned_row,
)
from sturdysort.errors import BadCards, BadLot, BadTimes, BadTold, BadWord, TooLong
from sturdysort.faults import fitting, lots_by_end, parting_row
from sturdysort.rows import run

WORD = (0, 1, 0, 1, 0)
PAIR = ((1, 2, 0), (0, 1, 2))
TASK = [(3, (0, BadCards)), (WORD, ((2,), BadWord), ((0,) * 41, TooLong))]
FUNCTIONS = {lots_by_end: [3, WORD, 1], fitting: [3, WORD, 1, (PAIR,)], parting_row: [3, WORD, (0,), (1, 2)]}
WRONG_TOLD = [value for value in ODD if value != ()] + [
    0, [PAIR], [], PAIR, PAIR[0], {PAIR: 0}, (list(PAIR),), ([*PAIR],), (PAIR[:1],), ((*PAIR, PAIR[0]),), ((),),
    (PAIR, None), (PAIR, ()), (PAIR, PAIR, 3), (PAIR, [PAIR[0], PAIR[1]]), ((PAIR, PAIR),), ("12",), ((None, None),),
] + [((wrong, PAIR[1]),) for wrong in WRONG_ROWS + [(0, 1), (3, 2, 1, 0)]] + \
    [(PAIR, (PAIR[0], wrong)) for wrong in WRONG_ROWS + [(0, 1), (3, 2, 1, 0)]]


def few_lots(length, most):
    """All lots of at most so many deeds, fewer first, then ascending."""
    return [lot for many in range(most + 1) for lot in combinations(range(length), many)]


def tasks():
    """Words that are gone through with all their lots."""
    found = [(n, word) for n, longest in ((1, 0), (2, 4), (3, 4), (4, 3)) for word in all_deed_words(n, longest)]
    source = random.Random(38)
    for n, length in ((2, 7), (3, 5), (3, 7), (4, 6), (4, 8), (5, 8)) * 2:
        found.append((n, tuple([source.randrange(n - 1) for _ in range(length)])))
    return found + [(3, WORD)]


class LotsByEnd(Cases):
    def test_all_lots(self):
        for n, word in tasks():
            for most in range(4):
                meant = {}
                for lot in few_lots(len(word), most):
                    row = search_run(turned_row(n), word, lot)
                    meant[row] = meant.get(row, ()) + (lot,)
                # Rows are told in the order of their first lots.
                self.assertEqual(exactly(lots_by_end(n, word, most)), exactly(meant))

    def test_told_for_the_same_row_exactly_if_they_do_the_same_to_every_row(self):
        for n, word in [(3, WORD), (4, (0, 1, 2, 0, 1, 0)), (4, (2, 0, 1, 1, 2, 0))]:
            told = {lot: row for row, lots in lots_by_end(n, word, 3).items() for lot in lots}
            self.assertEqual(sorted(told), sorted(few_lots(len(word), 3)))
            ends = {lot: [search_run(row, word, lot) for row in all_rows(n)] for lot in told}
            for one, other in combinations(told, 2):
                self.assertIs(told[one] == told[other], ends[one] == ends[other])

    def test_edges(self):
        self.answers({(0,): ((),)}, lots_by_end, 1, (), 3)
        self.answers({(2, 1, 0): ((),)}, lots_by_end, 3, (), 3)
        self.answers({(0, 1): ((),)}, lots_by_end, 2, (0,), 0)
        self.answers({(0, 1): ((),), (1, 0): ((0,),)}, lots_by_end, 2, (0,), 3)
        self.answers({(0, 1): ((), (0,), (1,)), (1, 0): ((0, 1),)}, lots_by_end, 2, (0, 0), 2)
        self.answers({(0, 1): ((), (0,), (1,))}, lots_by_end, 2, (0, 0), 1)

    def test_40_deeds(self):
        word = ((0, 1, 2, 3, 4, 5) * 7)[:40]
        told = lots_by_end(7, word, 3)
        self.assertEqual(sum([len(lots) for lots in told.values()]), 1 + 40 + 780 + 9880)
        for row, lots in told.items():
            self.assertEqual(list(lots), sorted(lots, key=lambda lot: (len(lot), lot)))
            for lot in lots[::97]:
                self.assertEqual(search_run(turned_row(7), word, lot), row)
        self.answers({(0, 1): tuple(few_lots(40, 3))}, lots_by_end, 2, (0,) * 40, 3)


class Fitting(Cases):
    def test_all_lots(self):
        source = random.Random(39)
        for n, word in tasks():
            for most in range(4):
                lots = few_lots(len(word), most)
                for many in (0, 1, 1, 2, 3):
                    self.look_at(n, word, most, lots, self.some_pairs(source, n, word, lots, many))

    def some_pairs(self, source, n, word, lots, many):
        """Pairs of rows, most of them as some lot tells."""
        lot = source.choice(lots)
        rows = [source.choice(all_rows(n)) for _ in range(many)]
        pairs = [(row, search_run(row, word, lot)) for row in rows]
        if many > 1 and source.random() < 0.3:
            pairs[0] = (rows[0], source.choice(all_rows(n)))
        return tuple(pairs)

    def look_at(self, n, word, most, lots, told):
        meant = [lot for lot in lots if all(search_run(row, word, lot) == other for row, other in told)]
        self.assertEqual(exactly(fitting(n, word, most, told)), exactly(tuple(meant)))

    def test_every_row_of_a_faulty_run(self):
        for lot in ((), (2,), (0, 3), (0, 2, 4)):
            told = tuple([(row, search_run(row, WORD, lot)) for row in all_rows(3)])
            alike = lots_by_end(3, WORD, 3)[search_run((2, 1, 0), WORD, lot)]
            self.answers(alike, fitting, 3, WORD, 3, told)
            self.answers(alike, fitting, 3, WORD, 3, told[-1:])

    def test_nothing_told(self):
        for most in range(4):
            self.answers(tuple(few_lots(5, most)), fitting, 3, WORD, most, ())
        self.answers(((),), fitting, 1, (), 3, ())
        self.answers(((),), fitting, 1, (), 0, (((0,), (0,)),) * 5)

    def test_told_against_one_another(self):
        self.answers((), fitting, 3, WORD, 3, (PAIR, (PAIR[0], (1, 2, 0))))
        self.answers((), fitting, 3, WORD, 3, (((0, 1, 2), (0, 2, 1)),))
        self.assertEqual(fitting(3, WORD, 3, (PAIR, PAIR, PAIR)), fitting(3, WORD, 3, (PAIR,)))

    def test_40_deeds(self):
        word = ((0, 1, 2, 3, 4, 5) * 7)[:40]
        self.answers(tuple(few_lots(40, 3)), fitting, 7, word, 3, ())
        rows = [turned_row(7), (3, 6, 2, 5, 1, 4, 0)]
        told = tuple([(row, search_run(row, word, (0, 7, 13))) for row in rows])
        found = fitting(7, word, 3, told)
        self.assertIn((0, 7, 13), found)
        self.assertEqual(list(found), sorted(found, key=lambda lot: (len(lot), lot)))
        alike = lots_by_end(7, word, 3)[told[0][1]]
        self.assertEqual(found, alike)

    def test_wrong_told(self):
        self.refuses_each(BadTold, fitting, FUNCTIONS[fitting], 3, WRONG_TOLD)
        self.refuses(BadTold, fitting, 1, (), 0, (((0,),),))
        self.refuses(BadTold, fitting, 2, (0,), 0, (((0,), (0,)),))


class PartingRow(Cases):
    def test_all_pairs_of_lots(self):
        for n, word in [(1, ()), (2, (0, 0, 0)), (3, WORD), (3, (1, 1, 0, 0)), (4, (0, 1, 2, 0, 1)), (4, (2, 0, 2, 1))]:
            ends = {lot: [search_run(row, word, lot) for row in all_rows(n)] for lot in all_places(len(word))}
            for one in ends:
                for other in ends:
                    parted = [row for row, end, its_end in zip(all_rows(n), ends[one], ends[other]) if end != its_end]
                    self.assertEqual(exactly(parting_row(n, word, one, other)), exactly(parted[0] if parted else None))

    def test_some_lots_of_longer_words(self):
        source = random.Random(40)
        for n, length in ((4, 9), (5, 12), (5, 20), (6, 30)):
            for _ in range(4):
                word = tuple([source.randrange(n - 1) for _ in range(length)])
                one, other = [tuple(sorted(source.sample(range(length), 3))) for _ in range(2)]
                told = parting_row(n, word, one, other)
                parted = [row for row in all_rows(n) if search_run(row, word, one) != search_run(row, word, other)]
                self.assertEqual(told, parted[0] if parted else None)
                ends = [search_run(turned_row(n), word, lot) for lot in (one, other)]
                self.assertIs(told is None, ends[0] == ends[1])

    def test_the_same_lot(self):
        for lot in all_places(5):
            self.answers(None, parting_row, 3, WORD, lot, lot)
        self.answers(None, parting_row, 1, (), (), ())
        self.answers(None, parting_row, 2, (0,) * 40, (0, 1, 2), tuple(range(39)))
        self.answers((1, 0), parting_row, 2, (0,) * 40, (0, 1, 2), tuple(range(40)))

    def test_seven_cards(self):
        word = ((0, 1, 2, 3, 4, 5) * 7)[:40]
        self.answers(None, parting_row, 7, word, (), (39,))
        found = parting_row(7, word, (), tuple(range(40)))
        self.assertEqual(found, (0, 1, 2, 3, 4, 6, 5))
        self.assertNotEqual(run(found, word, ()), run(found, word, tuple(range(40))))

    def test_wrong_lots(self):
        for at in (2, 3):
            self.refuses_each(BadLot, parting_row, FUNCTIONS[parting_row], at, WRONG_LOTS_OF_5)


class WrongValues(Cases):
    def test_each_parameter(self):
        for function, args in FUNCTIONS.items():
            self.refuses_each(BadCards, function, args, 0, WRONG_CARDS)
            self.refuses_each(BadWord, function, args, 1, WRONG_WORDS_OF_3)
            self.refuses(TooLong, function, 3, (0, 1) * 20 + (0,), *args[2:], most=40)
            self.refuses(TooLong, function, 3, (0, 1) * 100, *args[2:], most=40)
            self.refuses(BadWord, function, 3, (0, 1) * 100 + (0,), *args[2:])
        for function in (lots_by_end, fitting):
            self.refuses_each(BadTimes, function, FUNCTIONS[function], 2, WRONG_TIMES)

    def test_order(self):
        most = (1, (4, BadTimes), (True, BadTimes))
        self.refuses_in_order(lots_by_end, *TASK, most)
        self.refuses_in_order(fitting, *TASK, most, ((PAIR,), ((PAIR[0],), BadTold), (None, BadTold)))
        self.refuses_in_order(parting_row, *TASK, ((0,), ((1, 0), BadLot)), ((1,), ((5,), BadLot), ([], BadLot)))


if __name__ == "__main__":
    unittest.main()
