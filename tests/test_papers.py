"""Point 30: papers on lots, and whether they show what they tell."""

import random
import unittest
from itertools import product

from helpers import (
    Cases, ODD, WRONG_LOTS_OF_5, all_deed_words, all_places, all_rows, means_no_less_sorted, search_run,
    search_shortest, search_tasks, turned_row,
)
from sturdysort.errors import BadCards, BadGoal, BadLot, BadWord, TooLong
from sturdysort.papers import judged, paper

WORD = (0, 1, 0, 1, 0)
SORTED = (0, 1, 2)


def tasks():
    """Words and goals whose lots are all gone through."""
    found = [(n, word, goal) for n, longest in ((1, 0), (2, 3), (3, 3)) for word in all_deed_words(n, longest)
             for goal in all_rows(n)]
    return found + [(3, WORD, goal) for goal in all_rows(3)] + [(4, (0, 1, 2, 0, 1, 0), (0, 1, 2, 3))]


def counts_fewer(row, goal, i, v):
    """Whether of the row's first i cards fewer are less than v than of the goal's."""
    return len([card for card in row[:i] if card < v]) < len([card for card in goal[:i] if card < v])


def meant_paper(n, word, goal, lot, words):
    """Point 30's words; the words are all shortest ones to the goal."""
    row = search_run(turned_row(n), word, lot)
    if not means_no_less_sorted(row, goal):
        return ("harms", *min([pair for pair in product(range(n + 1), repeat=2) if counts_fewer(row, goal, *pair)]))
    fitting = [places for places in all_places(len(word)) if not set(places) & set(lot)
               and tuple([word[place] for place in places]) in words]
    return "fine", min(fitting)


class Papers(Cases):
    def test_all_lots(self):
        words = {n: search_shortest(turned_row(n)) for n in range(1, 5)}
        kinds = []
        for n, word, goal in tasks():
            for lot in all_places(len(word)):
                meant = meant_paper(n, word, goal, lot, words[n][goal])
                self.answers(meant, paper, n, word, goal, lot)
                self.answers(True, judged, n, word, goal, lot, meant)
                kinds.append(meant[0])
        self.assertGreater(min(kinds.count("fine"), kinds.count("harms")), 200)

    def test_longer_words(self):
        source = random.Random(31)
        words = {n: search_shortest(turned_row(n)) for n in range(1, 5)}
        for n, word, goal in source.sample([task for task in search_tasks(31) if task[0] < 5], 40):
            for lot in source.sample(all_places(len(word)), min(4, 2 ** len(word))):
                meant = meant_paper(n, word, goal, lot, words[n][goal])
                self.answers(meant, paper, n, word, goal, lot)

    def test_no_deeds_and_one_card(self):
        self.answers(("fine", ()), paper, 1, (), (0,), ())
        self.answers(("fine", ()), paper, 3, (), (2, 1, 0), ())
        self.answers(("harms", 1, 1), paper, 3, (), (0, 1, 2), ())
        self.answers(("fine", ()), paper, 3, WORD, (2, 1, 0), (0, 1, 2, 3, 4))

    def test_40_deeds(self):
        self.answers(("fine", (39,)), paper, 2, (0,) * 40, (0, 1), tuple(range(39)))
        self.answers(("harms", 1, 1), paper, 2, (0,) * 40, (0, 1), tuple(range(40)))
        word = (0, 1, 2, 3, 4, 5) * 6 + (0, 1, 2, 3)
        kind, places = paper(7, word, tuple(range(7)), (0, 6, 12, 18))
        self.assertEqual((kind, len(places)), ("fine", 21))
        self.answers(True, judged, 7, word, tuple(range(7)), (0, 6, 12, 18), (kind, places))
        self.answers(False, judged, 7, word, tuple(range(7)), (0, 6, 12, 18, places[20]), (kind, places))


class Judged(Cases):
    def test_all_papers_that_tell_fine(self):
        for n, word, goal in tasks():
            for lot in all_places(len(word))[::3]:
                for places in all_places(len(word)):
                    row = search_run(turned_row(n), [word[place] for place in places])
                    meant = not set(places) & set(lot) and means_no_less_sorted(row, goal)
                    self.assertIs(judged(n, word, goal, lot, ("fine", places)), meant)

    def test_all_papers_that_tell_harm(self):
        for n, word, goal in tasks():
            for lot in all_places(len(word)):
                row = search_run(turned_row(n), word, lot)
                for i, v in product(range(-1, n + 2), repeat=2):
                    within = 0 <= min(i, v) and max(i, v) <= n
                    meant = within and counts_fewer(row, goal, i, v)
                    self.assertIs(judged(n, word, goal, lot, ("harms", i, v)), meant)

    def test_more_places_than_a_shortest_word_needs(self):
        self.answers(True, judged, 3, WORD, SORTED, (), ("fine", (0, 1, 2, 3, 4)))
        self.answers(True, judged, 3, WORD, SORTED, (2,), ("fine", (0, 1, 3, 4)))
        self.answers(True, judged, 3, WORD, SORTED, (4,), ("fine", (1, 2, 3)))
        self.answers(False, judged, 3, WORD, SORTED, (4,), ("fine", (0, 1, 2, 3, 4)))
        self.answers(True, judged, 3, WORD, (2, 1, 0), (), ("fine", ()))

    def test_bent_papers_that_tell_fine(self):
        places = (0, 1, 4)
        self.answers(True, judged, 3, WORD, SORTED, (2,), ("fine", places))
        bent = [("fine",), ("fine", places, 0), ("fine", 0, 1), ["fine", places], ("Fine", places), ("harms", places),
                ("fine", *places), (places, "fine"), (places,), places, ("fine ", places), (("fine", places),),
                {"fine": places}, (None, places), (True, places), (["fine"], places), "fine", ("fine", ("fine", places))]
        bent += [("fine", wrong) for wrong in WRONG_LOTS_OF_5]
        bent += [("fine", wrong) for wrong in ((1, 0, 4), (0, 4, 1), (0, 0, 1, 4), (0, 1, 4, 4), (0, 1, 5), (0, 1, 2),
                                               (0, 1, 2, 4), (-1, 0, 1, 4), (False, 1, 4), (0, True, 4), [0, 1, 4],
                                               (0, 1), (), (0, 1, 4, 5), (0, 1, None), ((0, 1, 4),))]
        for value in bent + ODD:
            self.answers(False, judged, 3, WORD, SORTED, (2,), value)

    def test_bent_papers_that_tell_harm(self):
        self.answers(True, judged, 3, WORD, SORTED, (0, 2), ("harms", 2, 2))
        bent = [("harms",), ("harms", 2), ("harms", 2, 2, 2), ["harms", 2, 2], ("fine", 2, 2), ("Harms", 2, 2),
                ("harms", (2, 2)), (2, 2), (2, "harms", 2), ("harms", 2, 4), ("harms", 4, 2), ("harms", -1, 2),
                ("harms", 2, -1), ("harms", 10 ** 40, 2), ("harms", 2, 10 ** 40), ("harms", 1, 1), ("harms", 0, 0),
                ("harms", 3, 3), "harms", {"harms": (2, 2)}, (("harms", 2, 2),)]
        bent += [("harms", wrong, 2) for wrong in ODD] + [("harms", 2, wrong) for wrong in ODD]
        for value in bent + ODD:
            self.answers(False, judged, 3, WORD, SORTED, (0, 2), value)
        # Where 1 would show it, True does not.
        self.answers(True, judged, 2, (), (0, 1), (), ("harms", 1, 1))
        self.answers(False, judged, 2, (), (0, 1), (), ("harms", True, 1))
        self.answers(False, judged, 2, (), (0, 1), (), ("harms", 1, True))

    def test_a_paper_of_the_other_kind(self):
        for lot in all_places(5):
            kind = paper(3, WORD, SORTED, lot)[0]
            others = [("fine", places) for places in all_places(5)]
            if kind == "fine":
                others = [("harms", i, v) for i in range(4) for v in range(4)]
            self.assertFalse(any(judged(3, WORD, SORTED, lot, other) for other in others))


class WrongValues(Cases):
    def test_each_parameter(self):
        for function, args in ((paper, [3, WORD, SORTED, ()]), (judged, [3, WORD, SORTED, (), ("fine", (0, 1, 2))])):
            self.refuses_wrong_tasks(function, args)
            self.refuses_each(BadLot, function, args, 3, WRONG_LOTS_OF_5)

    def test_order(self):
        task = [(3, (0, BadCards)), (WORD, ((2,), BadWord), ((0,) * 41, TooLong)), (SORTED, ((0, 1), BadGoal)),
                ((0,), ((1, 0), BadLot))]
        self.refuses_in_order(paper, *task)
        self.refuses_in_order(judged, *task, (("fine", (0, 1, 2)),))
        self.refuses_in_order(judged, *task, (None,))


if __name__ == "__main__":
    unittest.main()
