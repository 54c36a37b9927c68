"""Desks: words whose deeds are open, sure or lost, which can be changed and written down."""

from sturdysort.chances import chance_of_no_harm
from sturdysort.choices import cheapest_places
from sturdysort.errors import BadChances, BadDeed, BadState, InvalidDesk, NothingDone, NotText, TooLong
from sturdysort.moves import left_of, reaches
from sturdysort.shares import NEVER, SURELY, is_chance
from sturdysort.values import MOST_CARDS, MOST_DEEDS_THAT_FAIL, check_place, check_task, is_from_to, is_row

STATES = ("open", "sure", "lost")
LINES_AHEAD = 2


class Desk:
    """A word with a state of each of its deeds, and its goal.

    The past holds the deeds and the marks, which are their states, ahead of each change that isn't taken back.
    """

    def __init__(self, n, word, goal):
        check_task(n, word, goal)
        self.n = n
        self.aim = goal
        self.deeds = word
        self.marks = ("open",) * len(word)
        self.past = []

    def put(self, place, deed):
        """Puts an open deed ahead of a place."""
        check_place(place, len(self.deeds))
        if not is_from_to(deed, 0, self.n - 2):
            raise BadDeed(deed)
        if len(self.deeds) == MOST_DEEDS_THAT_FAIL:
            raise TooLong(MOST_DEEDS_THAT_FAIL)
        self.renew(place, place, (deed,), ("open",))

    def take(self, place):
        """Takes the deed at a place away."""
        check_place(place, len(self.deeds) - 1)
        self.renew(place, place + 1, (), ())

    def mark(self, place, state):
        """Gives the deed at a place a state."""
        check_place(place, len(self.deeds) - 1)
        if state not in STATES:
            raise BadState()
        self.renew(place, place + 1, (self.deeds[place],), (state,))

    def renew(self, start, stop, deeds, marks):
        """Puts deeds with their marks instead of those from the start on ahead of the stop."""
        self.past.append((self.deeds, self.marks))
        self.deeds = self.deeds[:start] + deeds + self.deeds[stop:]
        self.marks = self.marks[:start] + marks + self.marks[stop:]

    def undo(self):
        """Takes back the last put, take or mark that isn't taken back."""
        if not self.past:
            raise NothingDone()
        self.deeds, self.marks = self.past.pop()

    def word(self):
        """The word of all deeds."""
        return self.deeds

    def states(self):
        """The tuple of the deeds' states."""
        return self.marks

    def goal(self):
        """The goal."""
        return self.aim

    def marked(self, state):
        """The ascending tuple of the places of the deeds in a state."""
        return tuple([place for place, mark in enumerate(self.marks) if mark == state])

    def is_fine_without(self, lot):
        """Whether the word reaches the goal though the lot fails."""
        return reaches(left_of(self.deeds, lot), self.aim)

    def is_well(self):
        """Whether the lost deeds together are harmless."""
        return self.is_fine_without(self.marked("lost"))

    def harmed_by(self):
        """The ascending tuple of the open places each of which, failing besides the lost ones, would harm."""
        if not self.is_well():
            return ()
        lost = self.marked("lost")
        return tuple([place for place in self.marked("open") if not self.is_fine_without((*lost, place))])

    def spare(self):
        """How many open deeds may fail at most, all at once, besides the lost ones; -1 if not well."""
        costs = [1 if mark == "open" else 0 for mark in self.marks if mark != "lost"]
        needed = cheapest_places(left_of(self.deeds, self.marked("lost")), self.aim, costs)
        return -1 if needed is None else sum(costs) - needed[0]

    def chance(self, q):
        """The chance that no harm is done if open deeds fail with the chance q each by itself."""
        if not is_chance(q):
            raise BadChances()
        chances = {"open": q, "sure": NEVER, "lost": SURELY}
        return chance_of_no_harm(self.n, self.deeds, self.aim, tuple([chances[mark] for mark in self.marks]))

    def text(self):
        """The desk written down, line by line."""
        lines = [f"cards {self.n}", " ".join(["goal", *[str(card) for card in self.aim]])]
        lines.extend([f"{mark} {deed}" for mark, deed in zip(self.marks, self.deeds)])
        return "".join([line + "\n" for line in lines])


def desk_of(text):
    """The desk that a text tells, without past."""
    if not isinstance(text, str):
        raise NotText()
    *lines, rest = text.split("\n")
    n = told_at(lines, 0, {f"cards {many}": many for many in range(1, MOST_CARDS + 1)})
    goal = goal_at(lines, 1, n)
    known = {f"{state} {deed}": (state, deed) for state in STATES for deed in range(n - 1)}
    many = min(len(lines), LINES_AHEAD + MOST_DEEDS_THAT_FAIL)
    told = [told_at(lines, at, known) for at in range(LINES_AHEAD, many)]
    if rest or many < len(lines):
        raise InvalidDesk(many)
    desk = Desk(n, tuple([deed for _, deed in told]), goal)
    desk.marks = tuple([state for state, _ in told])
    return desk


def told_at(lines, at, known):
    """What a line tells that is one of the known ones."""
    line = line_at(lines, at)
    if line not in known:
        raise InvalidDesk(at)
    return known[line]


def line_at(lines, at):
    """The line with a number, if the text doesn't end ahead of it."""
    if at == len(lines):
        raise InvalidDesk(at)
    return lines[at]


def goal_at(lines, at, n):
    """The goal that a line tells."""
    first, *words = line_at(lines, at).split(" ")
    cards = {str(card): card for card in range(n)}
    goal = tuple([cards.get(word) for word in words])
    if first != "goal" or not is_row(goal, n):
        raise InvalidDesk(at)
    return goal
