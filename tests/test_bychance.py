"""Point 39: rows that are sorted by deeds drawn by chance."""

import random
import unittest
from fractions import Fraction
from itertools import product

from helpers import Cases, HALF, ODD, WRONG_INTEGERS, WRONG_ROWS, all_rows, exactly, search_run, share_of, turned_row
from sturdysort.bychance import behind, expected
from sturdysort.errors import BadDraws, BadRow, BadTimes, NeverSorted

NEVER = (0, 1)
SURELY = (1, 1)
THIRD = (1, 3)
# Draws for two deeds.
DRAWS = ((1, 3), (2, 3))
WRONG_ROWS_OF_DRAWS = WRONG_ROWS + [(0,), tuple(range(6)), tuple(range(7)), (5, 4, 3, 2, 1, 0), (6, 5, 4, 3, 2, 1, 0)]
WRONG_DRAWS_OF_2 = ODD + [
    (), 0, 1, HALF, (HALF,), (SURELY,), (HALF,) * 3, (THIRD,) * 3, (HALF, HALF, NEVER), [HALF, HALF], [[1, 2], [1, 2]],
    (HALF, [1, 2]), (HALF, None), (HALF, 1), ((2, 4), (1, 2)), ((1, 2), (2, 4)), ((1, 1), (0, 2)), ((0, 3), (1, 1)),
    (HALF, THIRD), (THIRD, THIRD), (NEVER, NEVER), (SURELY, SURELY), (SURELY, HALF), ((-1, 2), (3, 2)),
    ((3, 2), (-1, 2)), ((1, -2), (1, 2)), ((-1, -2), HALF), ((1, 0), HALF), ((0, 0), SURELY), ((True, 1), NEVER),
    (SURELY, (False, 1)), (SURELY, (0, True)), ((1, True), NEVER), ((1, 2, 3), HALF), ((1,), HALF), ("12", HALF),
    ((1, "2"), HALF), ((1, 1001), (1000, 1001)), ((1, 10 ** 6), (999999, 10 ** 6)), ((10 ** 40, 1), NEVER),
    ((HALF, HALF),), {HALF: HALF}, ((1, 2.0), HALF), "1122", ((500, 1000), (500, 1000)), ((0, 1001), SURELY),
    ((1001, 1001), NEVER),
]


def some_draws(source, many):
    """Draws of many kinds, chances 0 among them."""
    while True:
        bottom = source.choice([1, 2, 3, 5, 12, 60, 997, 1000])
        cuts = sorted([source.randrange(bottom + 1) for _ in range(many - 1)])
        parts = [high - low for low, high in zip([0, *cuts], [*cuts, bottom])]
        if source.random() < 0.7 or all(parts):
            return tuple([share_of(Fraction(part, bottom)) for part in parts])


def kinds_of_draws(many):
    """Draws of each kind for so many deeds."""
    source = random.Random(many)
    found = [tuple([SURELY if deed == one else NEVER for deed in range(many)]) for one in range(many)]
    found.append(((1, many),) * many)
    if many > 1:
        found.append(tuple([(999, 1000), (1, 1000)] + [NEVER] * (many - 2)))
    return found + [some_draws(source, many) for _ in range(12)]


def met_rows(row, draws):
    """All rows that may be met."""
    found = [row]
    for one in found:
        for deed, share in enumerate(draws):
            later = search_run(one, (deed,))
            if share[0] and later not in found:
                found.append(later)
    return found


def may_never_be_sorted(row, draws):
    goal = tuple(sorted(row))
    return any(goal not in met_rows(one, draws) for one in met_rows(row, draws))


class Expected(Cases):
    def test_the_equations(self):
        for n in range(2, 6):
            for draws in kinds_of_draws(n - 1):
                numbers = {}
                for row in all_rows(n):
                    if may_never_be_sorted(row, draws):
                        self.refuses(NeverSorted, expected, row, draws)
                    else:
                        numbers[row] = self.number(row, draws)
                self.look_at(draws, numbers)

    def number(self, row, draws):
        told = expected(row, draws)
        number = Fraction(*told)
        self.assertEqual(exactly(told), exactly(share_of(number)))
        return number

    def look_at(self, draws, numbers):
        for row, number in numbers.items():
            if row == tuple(sorted(row)):
                self.assertEqual(number, 0)
            else:
                # One draw, and then what is expected from the row behind it.
                later = [Fraction(*share) * numbers[search_run(row, (deed,))] for deed, share in enumerate(draws)
                         if share[0]]
                self.assertEqual(number, 1 + sum(later))

    def test_sorted_rows(self):
        for n in range(2, 6):
            for draws in kinds_of_draws(n - 1):
                self.answers((0, 1), expected, tuple(range(n)), draws)

    def test_some(self):
        self.answers((1, 1), expected, (1, 0), (SURELY,))
        self.answers((5, 1), expected, (2, 1, 0), (HALF, HALF))
        self.answers((2, 1), expected, (1, 0, 2), (HALF, HALF))
        self.answers((1000, 1), expected, (1, 0, 2), ((1, 1000), (999, 1000)))
        self.answers((1, 1), expected, (1, 0, 2), (SURELY, NEVER))
        self.answers((4, 1), expected, (1, 2, 0), (HALF, HALF))

    def test_chances_0(self):
        self.refuses(NeverSorted, expected, (1, 0, 2), (NEVER, SURELY))
        self.refuses(NeverSorted, expected, (2, 1, 0), (NEVER, SURELY))
        self.refuses(NeverSorted, expected, (2, 1, 0), (SURELY, NEVER))
        self.answers((1, 1), expected, (0, 2, 1), (NEVER, SURELY))
        self.answers((3, 1), expected, (1, 0, 3, 2), (HALF, NEVER, HALF))
        self.refuses(NeverSorted, expected, (1, 2, 0, 3), (HALF, NEVER, HALF))
        self.answers((5, 1), expected, (2, 1, 0, 3), (HALF, HALF, NEVER))
        self.refuses(NeverSorted, expected, (3, 1, 2, 0, 4), (THIRD, THIRD, NEVER, THIRD))

    def test_great_parts(self):
        draws = ((1, 1000),) * 3 + ((997, 1000),)
        number = Fraction(*expected(turned_row(5), draws))
        self.assertGreater(number, 3000)
        later = [expected(search_run(turned_row(5), (deed,)), draws) for deed in range(4)]
        self.assertEqual(number, 1 + sum([Fraction(*share) * Fraction(*one) for share, one in zip(draws, later)]))


class Behind(Cases):
    def test_all_draws_one_behind_another(self):
        for n in range(2, 6):
            for draws in kinds_of_draws(n - 1)[:8]:
                for row in random.Random(n).sample(all_rows(n), min(4, len(all_rows(n)))):
                    for times in range({2: 7, 3: 7, 4: 5, 5: 4}[n]):
                        self.assertEqual(behind(row, draws, times), self.search(row, draws, times))

    def search(self, row, draws, times):
        """Every tuple of so many deeds, with its chance."""
        found = {}
        for deeds in product(range(len(draws)), repeat=times):
            part = Fraction(1)
            for deed in deeds:
                part *= Fraction(*draws[deed])
            if part:
                later = search_run(row, deeds)
                found[later] = found.get(later, Fraction(0)) + part
        return {later: share_of(part) for later, part in found.items()}

    def test_one_more_draw(self):
        source = random.Random(41)
        for n in range(2, 6):
            for draws in kinds_of_draws(n - 1):
                row = source.choice(all_rows(n))
                found = {row: Fraction(1)}
                for times in range(13):
                    shares = {one: share_of(part) for one, part in found.items()}
                    self.assertEqual(behind(row, draws, times), shares)
                    self.assertEqual(sum(found.values()), 1)
                    found = self.one_more(found, draws)

    def one_more(self, found, draws):
        later = {}
        for row, part in found.items():
            for deed, share in enumerate(draws):
                if share[0]:
                    one = search_run(row, (deed,))
                    later[one] = later.get(one, Fraction(0)) + part * Fraction(*share)
        return later

    def test_values(self):
        self.answers({(2, 0, 1): SURELY}, behind, (2, 0, 1), DRAWS, 0)
        told = behind((2, 1, 0), DRAWS, 1)
        self.assertEqual(told, {(1, 2, 0): (1, 3), (2, 0, 1): (2, 3)})
        self.assertEqual({exactly(one) for one in told}, {"(1, 2, 0)", "(2, 0, 1)"})
        self.answers({(0, 1): SURELY}, behind, (1, 0), (SURELY,), 12)
        self.answers({(0, 1, 2): SURELY}, behind, (0, 1, 2), DRAWS, 12)
        self.answers({(1, 2, 0): SURELY}, behind, (2, 1, 0), (SURELY, NEVER), 12)
        self.assertEqual(behind((1, 0, 2), ((1, 1000), (999, 1000)), 12)[1, 0, 2], share_of(Fraction(999, 1000) ** 12))

    def test_chances_0_are_left_out(self):
        told = behind((2, 1, 0, 3), (HALF, HALF, NEVER), 12)
        self.assertEqual(set(told), {(0, 1, 2, 3), (1, 2, 0, 3), (2, 0, 1, 3), (1, 0, 2, 3), (0, 2, 1, 3)})
        self.assertTrue(all(share[0] for share in told.values()))
        self.assertEqual(set(behind((2, 1, 0), DRAWS, 2)), {(1, 2, 0), (2, 0, 1), (1, 0, 2), (0, 2, 1)})

    def test_times(self):
        args = [(2, 1, 0), DRAWS, 2]
        self.refuses_each(BadTimes, behind, args, 2, WRONG_INTEGERS + [13, 14, 100, -1])
        self.assertEqual(sum([Fraction(*share) for share in behind(*args[:2], 12).values()]), 1)


class WrongValues(Cases):
    def test_rows(self):
        self.refuses_each(BadRow, expected, [(2, 1, 0), DRAWS], 0, WRONG_ROWS_OF_DRAWS)
        self.refuses_each(BadRow, behind, [(2, 1, 0), DRAWS, 2], 0, WRONG_ROWS_OF_DRAWS)
        for n in (1, 6, 7):
            self.refuses(BadRow, expected, turned_row(n), ((1, n),) * (n - 1))
            self.refuses(BadRow, behind, turned_row(n), (SURELY,) + (NEVER,) * (n - 2), 2)
            self.refuses(BadRow, expected, tuple(range(n)), ())

    def test_draws(self):
        self.refuses_each(BadDraws, expected, [(2, 1, 0), DRAWS], 1, WRONG_DRAWS_OF_2)
        self.refuses_each(BadDraws, expected, [(0, 1, 2), DRAWS], 1, WRONG_DRAWS_OF_2)
        self.refuses_each(BadDraws, behind, [(2, 1, 0), DRAWS, 2], 1, WRONG_DRAWS_OF_2)
        self.refuses(BadDraws, expected, (1, 0), (HALF,))
        self.refuses(BadDraws, expected, (1, 0), (NEVER,))
        self.refuses(BadDraws, expected, (1, 0), ((2, 2),))
        self.refuses(BadDraws, expected, (1, 0), DRAWS)
        self.refuses(BadDraws, expected, (3, 2, 1, 0), DRAWS)

    def test_parts_of_1000_and_1001(self):
        self.assertGreater(Fraction(*expected((2, 1, 0), ((1, 1000), (999, 1000)))), 1000)
        self.assertGreater(Fraction(*expected((2, 1, 0), ((999, 1000), (1, 1000)))), 1000)
        self.refuses(BadDraws, expected, (2, 1, 0), ((1, 1001), (1000, 1001)))
        self.refuses(BadDraws, behind, (2, 1, 0), ((1000, 1001), (1, 1001)), 0)
        # The bottoms need not be alike.
        self.answers(share_of(Fraction(6, 1)), expected, (1, 0, 2, 3), ((1, 6), (1, 2), (1, 3)))

    def test_order(self):
        row = ((2, 1, 0), ((1, 1), BadRow), ((0,), BadRow))
        draws = (DRAWS, ((HALF,), BadDraws), ((HALF, THIRD), BadDraws))
        self.refuses_in_order(expected, row, (*draws, ((SURELY, NEVER), NeverSorted)))
        self.refuses_in_order(behind, row, draws, (0, (13, BadTimes), (True, BadTimes)))
        self.refuses(BadRow, expected, (1, 2, 0, 4, 3, 5), (SURELY, NEVER))


if __name__ == "__main__":
    unittest.main()
