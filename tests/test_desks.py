"""Points 31 and 32: desks, what may fail on them, and their texts."""

import random
import unittest
from fractions import Fraction
from itertools import permutations

from helpers import (
    Cases, HALF, ODD, ODD_VALUES, WORD_OF_3000, WORD_OF_3001, WRONG_CARDS, WRONG_GOALS_OF_3, WRONG_INTEGERS,
    WRONG_SHARES, WRONG_WORDS_OF_3, all_places, chance_of_lot, search_harmless, share_of, turned_row,
)
from sturdysort.desks import Desk, desk_of
from sturdysort.errors import (
    BadCards, BadChances, BadDeed, BadGoal, BadPlace, BadState, BadWord, InvalidDesk, NothingDone, NotText, TooLong,
    TooMany,
)

WORD = (0, 1, 0, 1, 0)
SORTED = (0, 1, 2)
STATES = ("open", "sure", "lost")
WRONG_DEEDS = ODD + [2, 3, (), (0,), [0], "1", {0: 0}]
WRONG_STATES = ODD + ["Open", "open ", " open", "OPEN", "opens", "sur", "lose", "openlost", "open,sure", "lost\n", 0,
                      ("open",), ["open"], {"open": "open"}]


def desk_with(n, deeds, states, goal):
    """A desk with deeds in these states."""
    desk = Desk(n, deeds, goal)
    for place, state in enumerate(states):
        desk.mark(place, state)
    return desk


def meant_text(n, deeds, states, goal):
    lines = ["cards " + str(n), "goal" + "".join([" " + str(card) for card in goal])]
    lines += [states[place] + " " + str(deeds[place]) for place in range(len(deeds))]
    return "".join([line + "\n" for line in lines])


class Model:
    """What a desk holds, kept as plain lists with all that was before."""

    def __init__(self, n, word, goal):
        self.n = n
        self.goal = goal
        self.now = [[deed, "open"] for deed in word]
        self.before = []

    def do(self, change):
        self.before.append(self.now)
        self.now = [list(pair) for pair in self.now]
        change(self.now)

    def undo(self):
        self.now = self.before.pop()

    def told(self):
        deeds = tuple([deed for deed, _ in self.now])
        states = tuple([state for _, state in self.now])
        return deeds, states, self.goal, meant_text(self.n, deeds, states, self.goal)


class Tests(Cases):
    def looks_like(self, desk, told):
        for _ in range(2):
            self.assertEqual((desk.word(), desk.states(), desk.goal(), desk.text()), told)


class Changes(Tests):
    def test_random_changes(self):
        source = random.Random(32)
        for _ in range(60):
            n = source.randrange(1, 6)
            goal = source.choice(list(permutations(range(n))))
            word = tuple([source.randrange(n - 1) for _ in range(source.randrange(12))]) if n > 1 else ()
            desk, model = Desk(n, word, goal), Model(n, word, goal)
            for _ in range(60):
                self.change(source, desk, model)
                self.looks_like(desk, model.told())

    def change(self, source, desk, model):
        kind = source.choice(["put", "put", "take", "mark", "mark", "undo", "undo", "wrong"])
        at = source.randrange(len(model.now) + 1)
        if kind == "undo":
            if model.before:
                model.undo()
                self.assertIsNone(desk.undo())
            else:
                self.refuses(NothingDone, desk.undo)
        elif kind == "wrong":
            self.refuses(BadPlace, desk.take, len(model.now))
            self.refuses(BadPlace, desk.mark, -1, "open")
            self.refuses(BadDeed, desk.put, at, model.n - 1, value=model.n - 1)
        elif kind == "put" and model.n > 1:
            deed = source.randrange(model.n - 1)
            model.do(lambda now: now.insert(at, [deed, "open"]))
            self.assertIsNone(desk.put(at, deed))
        elif kind == "take" and at < len(model.now):
            model.do(lambda now: now.pop(at))
            self.assertIsNone(desk.take(at))
        elif kind == "mark" and at < len(model.now):
            state = source.choice(STATES)
            model.do(lambda now: now[at].__setitem__(1, state))
            self.assertIsNone(desk.mark(at, state))

    def test_put(self):
        desk = desk_with(3, (0, 1), ("sure", "lost"), SORTED)
        desk.put(1, 0)
        self.looks_like(desk, self.told((0, 0, 1), ("sure", "open", "lost")))
        desk.put(0, 1)
        desk.put(4, 0)
        self.looks_like(desk, self.told((1, 0, 0, 1, 0), ("open", "sure", "open", "lost", "open")))
        for place in (6, 7, -1):
            self.refuses(BadPlace, desk.put, place, 0)

    def told(self, deeds, states):
        return deeds, states, SORTED, meant_text(3, deeds, states, SORTED)

    def test_take(self):
        desk = desk_with(3, WORD, ("open", "sure", "lost", "open", "sure"), SORTED)
        desk.take(2)
        self.looks_like(desk, self.told((0, 1, 1, 0), ("open", "sure", "open", "sure")))
        desk.take(3)
        desk.take(0)
        self.looks_like(desk, self.told((1, 1), ("sure", "open")))
        self.refuses(BadPlace, desk.take, 2)
        desk.take(0)
        desk.take(0)
        self.looks_like(desk, self.told((), ()))
        self.refuses(BadPlace, desk.take, 0)
        self.refuses(BadPlace, desk.mark, 0, "open")
        desk.put(0, 1)
        self.looks_like(desk, self.told((1,), ("open",)))

    def test_undo(self):
        desk = Desk(3, (0, 1), SORTED)
        self.refuses(NothingDone, desk.undo)
        desk.mark(0, "lost")
        desk.put(1, 1)
        desk.take(0)
        self.looks_like(desk, self.told((1, 1), ("open", "open")))
        desk.undo()
        self.looks_like(desk, self.told((0, 1, 1), ("lost", "open", "open")))
        desk.take(2)
        desk.undo()
        desk.undo()
        self.looks_like(desk, self.told((0, 1), ("lost", "open")))
        desk.undo()
        self.looks_like(desk, self.told((0, 1), ("open", "open")))
        self.refuses(NothingDone, desk.undo)
        self.looks_like(desk, self.told((0, 1), ("open", "open")))

    def test_a_mark_that_changes_nothing_is_taken_back_too(self):
        desk = Desk(3, (0, 1), SORTED)
        desk.mark(1, "sure")
        desk.mark(1, "sure")
        desk.undo()
        self.looks_like(desk, self.told((0, 1), ("open", "sure")))
        desk.undo()
        self.looks_like(desk, self.told((0, 1), ("open", "open")))
        self.refuses(NothingDone, desk.undo)

    def test_calls_that_raise_errors_change_nothing(self):
        desk = Desk(3, (0, 1), SORTED)
        desk.mark(0, "sure")
        before = self.told((0, 1), ("sure", "open"))
        for place in WRONG_INTEGERS + [-1, 3, 10 ** 40]:
            self.refuses(BadPlace, desk.put, place, 0)
            self.refuses(BadPlace, desk.put, place, None)
        for place in WRONG_INTEGERS + [-1, 2, 3]:
            self.refuses(BadPlace, desk.take, place)
            self.refuses(BadPlace, desk.mark, place, "lost")
            self.refuses(BadPlace, desk.mark, place, "wrong")
        for deed in WRONG_DEEDS:
            self.refuses(BadDeed, desk.put, 0, deed, value=deed)
        for state in WRONG_STATES:
            self.refuses(BadState, desk.mark, 0, state)
        for q in WRONG_SHARES:
            self.refuses(BadChances, desk.chance, q)
        self.looks_like(desk, before)
        desk.undo()
        self.looks_like(desk, self.told((0, 1), ("open", "open")))
        self.refuses(NothingDone, desk.undo)

    def test_40_deeds(self):
        desk = Desk(3, (0,) * 39, SORTED)
        desk.put(39, 1)
        self.assertEqual(len(desk.word()), 40)
        for place in (0, 40):
            self.refuses(TooLong, desk.put, place, 0, most=40)
            self.refuses(BadDeed, desk.put, place, 2, value=2)
        self.refuses(BadPlace, desk.put, 41, 0)
        self.assertEqual(desk.word(), (0,) * 39 + (1,))
        desk.take(0)
        desk.put(0, 1)
        self.assertEqual(desk.word(), (1,) + (0,) * 38 + (1,))
        desk.undo()
        desk.undo()
        desk.undo()
        self.refuses(NothingDone, desk.undo)

    def test_one_card_has_no_deeds(self):
        desk = Desk(1, (), (0,))
        self.refuses(BadDeed, desk.put, 0, 0, value=0)
        self.refuses(BadPlace, desk.put, 1, 0)
        self.assertEqual((desk.is_well(), desk.harmed_by(), desk.spare(), desk.chance(HALF)), (True, (), 0, (1, 1)))

    def test_desks_do_not_share_what_they_hold(self):
        one, other = Desk(3, WORD, SORTED), Desk(3, WORD, SORTED)
        one.mark(0, "lost")
        one.take(1)
        self.looks_like(other, self.told(WORD, ("open",) * 5))
        self.refuses(NothingDone, other.undo)


class NewDesks(Tests):
    def test_wrong_values(self):
        args = [3, WORD, SORTED]
        self.refuses_each(BadCards, Desk, args, 0, WRONG_CARDS)
        self.refuses_each(BadWord, Desk, args, 1, WRONG_WORDS_OF_3)
        self.refuses_each(BadGoal, Desk, args, 2, WRONG_GOALS_OF_3)
        self.refuses(TooLong, Desk, 3, (0,) * 41, SORTED, most=40)
        self.refuses(TooLong, Desk, 3, (0,) * 200, None, most=40)
        self.refuses(BadWord, Desk, 3, (0,) * 201, SORTED)
        self.refuses_in_order(Desk, (3, (0, BadCards)), (WORD, ((2,), BadWord), ((0,) * 41, TooLong)),
                              (SORTED, ((0, 1), BadGoal)))

    def test_all_is_open(self):
        desk = Desk(3, WORD, SORTED)
        self.looks_like(desk, (WORD, ("open",) * 5, SORTED, meant_text(3, WORD, ("open",) * 5, SORTED)))


class Harm(Tests):
    def test_all_lots_of_short_words(self):
        source = random.Random(33)
        well = []
        for _ in range(250):
            n = source.choice([2, 3, 3, 4])
            word = tuple([source.randrange(n - 1) for _ in range(source.randrange(9))])
            goals = [tuple(range(n)), tuple(source.sample(range(n), n)), turned_row(n)]
            goal = source.choice(goals[:2] * 4 + goals[2:])
            states = [source.choice(("open", "open", "sure", "lost")) for _ in word]
            desk = desk_with(n, word, states, goal)
            self.look_at(desk, states, search_harmless(n, word, goal), source)
            well.append(desk.is_well())
        self.assertGreater(min(well.count(True), well.count(False)), 50)

    def look_at(self, desk, states, harmless, source):
        lost = [place for place, state in enumerate(states) if state == "lost"]
        free = [place for place, state in enumerate(states) if state == "open"]
        self.assertIs(desk.is_well(), tuple(lost) in harmless)
        harmed_by = [place for place in free if tuple(sorted([*lost, place])) not in harmless]
        self.assertEqual(desk.harmed_by(), tuple(harmed_by) if desk.is_well() else ())
        more = [len(lot) - len(lost) for lot in harmless if set(lost) <= set(lot) <= set(lost + free)]
        self.assertEqual(desk.spare(), max(more, default=-1))
        bottom = source.choice([1, 2, 3, 10 ** 6])
        q = share_of(Fraction(source.randrange(bottom + 1), bottom))
        chances = [{"open": q, "sure": (0, 1), "lost": (1, 1)}[state] for state in states]
        meant = sum([chance_of_lot(chances, lot) for lot in harmless], Fraction(0))
        self.assertEqual(desk.chance(q), share_of(meant))

    def test_sure_deeds_that_are_not_needed(self):
        desk = desk_with(2, (0, 0, 0, 0), ("sure", "open", "open", "lost"), (0, 1))
        self.assertEqual((desk.is_well(), desk.harmed_by(), desk.spare()), (True, (), 2))
        self.assertEqual(desk.chance((1, 3)), (1, 1))
        desk = desk_with(2, (0, 0), ("sure", "sure"), (0, 1))
        self.assertEqual((desk.harmed_by(), desk.spare(), desk.chance((1, 1))), ((), 0, (1, 1)))

    def test_not_well(self):
        desk = desk_with(3, WORD, ("lost", "open", "lost", "open", "open"), SORTED)
        self.assertEqual((desk.is_well(), desk.harmed_by(), desk.spare()), (False, (), -1))
        self.assertEqual(desk.chance((0, 1)), (0, 1))
        desk = Desk(3, (0, 1), SORTED)
        self.assertEqual((desk.is_well(), desk.harmed_by(), desk.spare(), desk.chance(HALF)), (False, (), -1, (0, 1)))

    def test_long_words(self):
        word = (0, 1, 2, 3, 4, 5) * 6 + (0, 1, 2, 3)
        desk = Desk(7, word, tuple(range(7)))
        self.assertEqual((desk.is_well(), desk.spare()), (True, 19))
        for place in range(0, 40, 7):
            desk.mark(place, "sure")
        self.assertLessEqual(desk.spare(), 19)
        self.refuses(TooMany, desk.chance, HALF, most=3000)
        desk = Desk(2, (0,) * 40, (0, 1))
        self.assertEqual((desk.spare(), desk.chance(HALF)), (39, (2 ** 40 - 1, 2 ** 40)))
        for place in range(39):
            desk.mark(place, "lost")
        self.assertEqual((desk.is_well(), desk.harmed_by(), desk.spare()), (True, (39,), 0))
        desk.mark(39, "lost")
        self.assertEqual((desk.is_well(), desk.harmed_by(), desk.spare()), (False, (), -1))

    def test_3000_and_3001_lots(self):
        n, word = WORD_OF_3000
        desk = Desk(n, word, tuple(range(n)))
        self.assertEqual(desk.chance((0, 1)), (1, 1))
        self.assertEqual(desk.chance((1, 1)), (0, 1))
        n, word = WORD_OF_3001
        desk = Desk(n, word, tuple(range(n)))
        self.refuses(TooMany, desk.chance, HALF, most=3000)
        self.refuses(TooMany, desk.chance, (0, 1), most=3000)
        self.refuses(BadChances, desk.chance, (2, 4))
        self.assertTrue(desk.is_well())


class Texts(Tests):
    def test_there_and_back(self):
        source = random.Random(34)
        for _ in range(200):
            n = source.randrange(1, 8)
            deeds = tuple([source.randrange(n - 1) for _ in range(source.choice([0, 1, 5, 40]))]) if n > 1 else ()
            states = tuple([source.choice(STATES) for _ in deeds])
            goal = tuple(source.sample(range(n), n))
            text = meant_text(n, deeds, states, goal)
            desk = desk_of(text)
            self.looks_like(desk, (deeds, states, goal, text))
            self.refuses(NothingDone, desk.undo)

    def test_a_desk_that_was_read_can_be_changed(self):
        desk = desk_of("cards 3\ngoal 0 1 2\nlost 0\nsure 1\n")
        desk.put(2, 0)
        desk.mark(0, "open")
        self.assertEqual(desk.text(), "cards 3\ngoal 0 1 2\nopen 0\nsure 1\nopen 0\n")
        self.assertTrue(desk.is_well())
        desk.undo()
        desk.undo()
        self.assertEqual(desk.text(), "cards 3\ngoal 0 1 2\nlost 0\nsure 1\n")
        self.refuses(NothingDone, desk.undo)

    def test_a_text_does_not_tell_the_past(self):
        desk = Desk(3, WORD, SORTED)
        desk.take(4)
        self.refuses(NothingDone, desk_of(desk.text()).undo)

    def test_no_texts(self):
        for value in ODD_VALUES + [0, 3, ("cards 1\ngoal 0\n",), ["cards 1\n", "goal 0\n"], {"cards": 1}]:
            self.refuses(NotText, desk_of, value)

    def test_first_lines(self):
        for line in ("", " ", "cards", "cards ", "cards 0", "cards 8", "cards 03", "cards 10", "cards 3 ", " cards 3",
                     "cards  3", "cards\t3", "card 3", "Cards 3", "cards3", "cards 3 3", "cards x", "cards -3",
                     "cards +3", "cards 3.", "cards 3\r", "cards \u0663", "goal 0 1 2", "open 0", "3", "cards three"):
            self.refuses(InvalidDesk, desk_of, line + "\ngoal 0 1 2\nopen 0\n", at=0)
            self.refuses(InvalidDesk, desk_of, line + "\nwrong\n", at=0)
            self.refuses(InvalidDesk, desk_of, line + "\n", at=0)
            self.refuses(InvalidDesk, desk_of, line, at=0)

    def test_second_lines(self):
        for line in ("", "goal", "goal ", "goal 0", "goal 0 1", "goal 0 1 2 3", "goal 0 1 3", "goal 0 1 1", "goal 1 2 3",
                     "goal 0 1 2 ", " goal 0 1 2", "goal  0 1 2", "goal 0  1 2", "goal 0\t1 2", "goal 00 1 2",
                     "goal 0 01 2", "goal 0,1,2", "goals 0 1 2", "Goal 0 1 2", "goal 0 1 x", "goal 0 1 -2",
                     "goal 0 1 +2", "goal 012", "0 1 2", "cards 3", "open 0", "goal 0 1 2\r", "goal 0 1 \u0662", "sure 0",
                     "goal None 1 2"):
            self.refuses(InvalidDesk, desk_of, "cards 3\n" + line + "\nopen 0\n", at=1)
            self.refuses(InvalidDesk, desk_of, "cards 3\n" + line + "\nwrong\n", at=1)
            self.refuses(InvalidDesk, desk_of, "cards 3\n" + line, at=1)

    def test_lines_of_deeds(self):
        for line in ("", " ", "open", "open ", "open 2", "open 00", "open 01", "open -1", "open +1", "open 1 ", " open 1",
                     "open  1", "open\t1", "Open 1", "opened 1", "open 1 1", "open x", "open1", "1", "1 open", "sure 2",
                     "lost 2", "lose 1", "shure 1", "goal 0 1 2", "cards 3", "open 1\r", "open \u0661", "open 10"):
            self.refuses(InvalidDesk, desk_of, "cards 3\ngoal 0 1 2\n" + line + "\n", at=2)
            self.refuses(InvalidDesk, desk_of, "cards 3\ngoal 0 1 2\nopen 0\nlost 1\n" + line + "\nsure 0\n", at=4)
            self.refuses(InvalidDesk, desk_of, "cards 3\ngoal 0 1 2\nopen 0\n" + line + "\nwrong\n", at=3)
            if line:
                self.refuses(InvalidDesk, desk_of, "cards 3\ngoal 0 1 2\nopen 0\n" + line, at=3)

    def test_texts_that_end_too_early(self):
        text = "cards 3\ngoal 0 1 2\nopen 0\nsure 1\n"
        desk_of(text)
        starts = {"": 0, "cards 3\n": 1, "cards 3": 0, "cards 3\ngoal 0 1 2": 1, "\n": 0, "cards 3\n\n": 1}
        for start, at in starts.items():
            self.refuses(InvalidDesk, desk_of, start, at=at)
        for length in range(len(text)):
            start = text[:length]
            if start.endswith("\n") and start.count("\n") > 1:
                self.assertEqual(desk_of(start).text(), start)
            else:
                self.refuses(InvalidDesk, desk_of, start, at=start.count("\n"))

    def test_what_stands_behind_the_last_line_end(self):
        text = "cards 3\ngoal 0 1 2\nopen 0\n"
        for rest in (" ", "open 1", "x", "\r", "\t"):
            self.refuses(InvalidDesk, desk_of, text + rest, at=3)
        self.refuses(InvalidDesk, desk_of, text + "\n", at=3)
        self.refuses(InvalidDesk, desk_of, text + "\n\n", at=3)
        self.refuses(InvalidDesk, desk_of, "\n" + text, at=0)

    def test_other_line_ends(self):
        for end in ("\r\n", "\r", "\x0b", "\x0c", "\x85", "\u2028", " "):
            self.refuses(InvalidDesk, desk_of, end.join(["cards 3", "goal 0 1 2", "open 0", ""]), at=0)

    def test_40_and_41_lines_of_deeds(self):
        text = "cards 3\ngoal 0 1 2\n" + "open 1\n" * 40
        self.assertEqual(desk_of(text).word(), (1,) * 40)
        for rest in ("open 1\n", "open 1", "x", "\n", "open 1\nopen 1\n", "x\n", "open 1\n" * 500):
            self.refuses(InvalidDesk, desk_of, text + rest, at=42)
        self.refuses(InvalidDesk, desk_of, text[:-1] + "0\n" + "open 1\n", at=41)

    def test_one_card_has_no_lines_of_deeds(self):
        self.assertEqual(desk_of("cards 1\ngoal 0\n").word(), ())
        self.refuses(InvalidDesk, desk_of, "cards 1\ngoal 0\nopen 0\n", at=2)

    def test_all_texts_bent_at_one_sign(self):
        text = "cards 3\ngoal 2 0 1\nopen 0\nlost 1\nsure 1\n"
        known = [meant_text(3, (0, 1, 1), states, goal) for goal in permutations(range(3)) for states in
                 [(one, two, three) for one in STATES for two in STATES for three in STATES]]
        for at in range(len(text)):
            for sign in ("", "0", "1", "2", "9", " ", "\n", "x", "-"):
                for bent in (text[:at] + sign + text[at + 1:], text[:at] + sign + text[at:]):
                    self.look_at_bent(bent, text, text[:at].count("\n"), known)

    def look_at_bent(self, bent, text, line, known):
        try:
            desk = desk_of(bent)
        except InvalidDesk as error:
            self.assertNotIn(bent, known)
            # Up to the bent line all lines can stand there.
            self.assertGreaterEqual(error.at, line)
            self.assertLessEqual(error.at, line + 1)
        else:
            self.assertEqual(desk.text(), bent)


class Lots(Tests):
    def test_every_state_of_a_pentagon(self):
        harmless = search_harmless(3, WORD, SORTED)
        for lost in all_places(5):
            states = ["lost" if place in lost else "open" for place in range(5)]
            desk = desk_with(3, WORD, states, SORTED)
            self.assertIs(desk.is_well(), lost in harmless)
            self.assertEqual(desk.spare(), 2 - len(lost) if lost in harmless else -1)


if __name__ == "__main__":
    unittest.main()
