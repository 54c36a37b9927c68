"""All errors of the package; each one is a SortError, and so a ValueError."""


class SortError(ValueError):
    """The base class of all errors of the package."""


class BadCards(SortError):
    """The number of cards is not an integer from 1 to 7."""


class BadRow(SortError):
    """Not a row, or not one of as many cards."""


class BadWord(SortError):
    """Not a tuple of at most 200 deeds."""


class BadLot(SortError):
    """Not an ascending tuple of unlike places of the word."""


class NoWay(SortError):
    """No word leads the row to the other one."""


class NotText(SortError):
    """The value is not a text."""


class InvalidText(SortError):
    """What begins at the place cannot stand there, or the text ends there too early."""

    def __init__(self, place):
        SortError.__init__(self, f"invalid at {place}")
        self.place = place


class Twice(SortError):
    """A part's name, or a name in its brackets, is told a second time."""

    def __init__(self, name):
        SortError.__init__(self, f"told twice: {name}")
        self.name = name


class Unknown(SortError):
    """The name is not in force, or no part of that name is told in full ahead."""

    def __init__(self, name):
        SortError.__init__(self, f"unknown: {name}")
        self.name = name


class WrongCount(SortError):
    """A do hands its part too few or too many numbers."""

    def __init__(self, name):
        SortError.__init__(self, f"wrong count of numbers for {name}")
        self.name = name


class BadDeed(SortError):
    """The value is no deed."""

    def __init__(self, value):
        SortError.__init__(self, "no such deed")
        self.value = value


class NotApart(SortError):
    """Two deeds that are put beside one another are less than two apart."""

    def __init__(self, one, other):
        SortError.__init__(self, f"not two apart: {one} and {other}")
        self.one = one
        self.other = other


class TooLong(SortError):
    """A word has more deeds, or a for more rounds, than the most that may be."""

    def __init__(self, most):
        SortError.__init__(self, f"longer than {most}")
        self.most = most


class TooGreat(SortError):
    """A number is more than 10 ** 6 apart from 0."""


class TooMuch(SortError):
    """More statements are begun than the most that may be."""

    def __init__(self, most):
        SortError.__init__(self, f"more than {most} statements")
        self.most = most


class BadGoal(SortError):
    """The goal is not a row of as many cards."""


class TooMany(SortError):
    """There are more of what is asked for than the most that may be."""

    def __init__(self, most):
        SortError.__init__(self, f"more than {most}")
        self.most = most


class BadNumber(SortError):
    """Not an integer that numbers anything here."""


class NotGreatest(SortError):
    """The lot is not a greatest harmless one."""


class BadPlace(SortError):
    """Not a place that is asked for."""


class Harms(SortError):
    """The lot is not harmless."""


class BadChances(SortError):
    """Not a chance for each deed."""


class BadPrices(SortError):
    """Not a price for each card."""


class SortsNotAll(SortError):
    """The word does not sort every row."""


class BadOrder(SortError):
    """The order is not a row of as many cards."""


class BadTimes(SortError):
    """Not a number of times that may be."""


class NoDiagonal(SortError):
    """Not a diagonal that stands for a deed."""


class BadPairs(SortError):
    """Not an ascending tuple of unlike diagonals that stand for deeds."""


class BadState(SortError):
    """Not a state of a deed."""


class NothingDone(SortError):
    """There is nothing to take back."""


class InvalidDesk(SortError):
    """The line cannot stand there, or the text ends there too early."""

    def __init__(self, at):
        SortError.__init__(self, f"invalid line {at}")
        self.at = at


class BadChange(SortError):
    """Not a change that the word lets."""


class NotAlike(SortError):
    """The two words do not do the same to every row."""


class BadLamps(SortError):
    """Not lamps, or not lamps of one row."""


class BadBound(SortError):
    """Not an integer from 0 to the number of cards."""


class BadTold(SortError):
    """Not a tuple of pairs of rows."""


class BadDraws(SortError):
    """Not a chance for each deed with the sum 1."""


class NeverSorted(SortError):
    """The row may never be sorted."""


class BadCosts(SortError):
    """Not a cost for each deed."""


class BadShare(SortError):
    """Not a share from 0 to 1."""
