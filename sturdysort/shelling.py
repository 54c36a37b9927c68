"""A row of all harmless lots: each lies in one stretch, from the fixed places of a greatest lot to that lot."""

from math import comb

from sturdysort.choices import least_places
from sturdysort.errors import Harms
from sturdysort.lots import all_lots
from sturdysort.moves import end_of, left_of, outside, reaches
from sturdysort.strings import rises, rising_places
from sturdysort.values import check_lot, check_task


def fixed(n, word, goal, lot):
    """The ascending tuple of the places of a greatest lot whose exchange leads to a lot ahead of it."""
    return rises(n, word, goal, lot)


def stretch_of(n, word, goal, lot):
    """The greatest lot in whose stretch a harmless lot lies: the first one that has all its deeds."""
    check_task(n, word, goal)
    check_harmless(word, goal, lot)
    return outside(word, least_places(word, goal, lot))


def check_harmless(word, goal, lot):
    """Raises BadLot if the value is not a lot of the word, Harms if it is not a harmless one."""
    check_lot(word, lot)
    if not reaches(left_of(word, lot), goal):
        raise Harms()


def above(n, word, goal, lot):
    """The tuple in order of the greatest lots that have all deeds of a harmless lot."""
    check_task(n, word, goal)
    check_harmless(word, goal, lot)
    return tuple([one for one in all_lots(n, word, goal) if all([place in one for place in lot])])


def stretches(n, word, lots):
    """The list of the pairs (fixed places, lot) of greatest lots."""
    return [(rising_places(n, word, lot), lot) for lot in lots]


def h_numbers(n, word, goal):
    """The tuple whose k-th number is how many greatest lots have k fixed places."""
    check_task(n, word, goal)
    lots = all_lots(n, word, goal)
    if not lots:
        return ()
    sizes = [len(places) for places, _ in stretches(n, word, lots)]
    return tuple([sizes.count(k) for k in range(len(lots[0]) + 1)])


def f_numbers(n, word, goal):
    """The tuple whose k-th number is how many harmless lots have k deeds."""
    counts = h_numbers(n, word, goal)
    most = len(counts) - 1
    # A lot of k deeds in a stretch has its i fixed places and k - i of the most - i others.
    return tuple([sum([counts[i] * comb(most - i, k - i) for i in range(k + 1)]) for k in range(most + 1)])


def is_sphere(n, word, goal):
    """Whether the word's end is the goal."""
    check_task(n, word, goal)
    return end_of(n, word) == goal
