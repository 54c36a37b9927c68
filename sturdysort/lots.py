"""Lots of deeds that may fail at no harm, and the greatest of them in their order."""

from sturdysort.choices import counts_of_working, is_greatest, lot_with_number, lots_in_order, number_of_lot
from sturdysort.choices import tables_of, total
from sturdysort.errors import BadNumber, NotGreatest, TooMany
from sturdysort.moves import left_of, reaches
from sturdysort.values import check_lot, check_task, is_from_to

MOST_LOTS = 3000


def is_harmless(n, word, goal, lot):
    """Whether what is left of the word, the lot failing, reaches the goal."""
    check_task(n, word, goal)
    check_lot(word, lot)
    return reaches(left_of(word, lot), goal)


def count_lots(n, word, goal):
    """How many greatest lots there are."""
    check_task(n, word, goal)
    return total(n, tables_of(n, word, goal))


def greatest_lots(n, word, goal):
    """The tuple of the greatest lots in their order."""
    check_task(n, word, goal)
    return tuple(all_lots(n, word, goal))


def all_lots(n, word, goal, most=MOST_LOTS):
    """The list of the greatest lots in their order, for values that are checked already."""
    tables = tables_of(n, word, goal)
    if total(n, tables) > most:
        raise TooMany(most)
    return lots_in_order(n, word, tables)


def lot_at(n, word, goal, number):
    """The greatest lot with the number, from 0 on."""
    check_task(n, word, goal)
    tables = tables_of(n, word, goal)
    if not is_from_to(number, 0, total(n, tables) - 1):
        raise BadNumber()
    return lot_with_number(n, word, tables, number)


def number_of(n, word, goal, lot):
    """The number of a greatest lot."""
    check_task(n, word, goal)
    check_greatest(n, word, goal, lot)
    return number_of_lot(n, word, tables_of(n, word, goal), lot)


def check_greatest(n, word, goal, lot):
    """Raises BadLot if the value is not a lot of the word, NotGreatest if it is not a greatest one."""
    check_lot(word, lot)
    if not is_greatest(n, word, goal, lot):
        raise NotGreatest()


def size_and_lot(lot):
    """What tells the order of lots that differ in size: fewer deeds first, then ascending."""
    return len(lot), lot


def fail_counts(n, word, goal):
    """For each place of the word in how many greatest lots it is."""
    return counts_and_total(n, word, goal)[0]


def counts_and_total(n, word, goal):
    """For each place in how many greatest lots it is, and how many there are in all."""
    check_task(n, word, goal)
    tables = tables_of(n, word, goal)
    many = total(n, tables)
    counts = tuple([many - working for working in counts_of_working(n, word, tables)])
    return counts, many


def idle(n, word, goal):
    """The ascending tuple of the places that are in all greatest lots; empty if there are none."""
    counts, many = counts_and_total(n, word, goal)
    return tuple([place for place, count in enumerate(counts) if many and count == many])


def vital(n, word, goal):
    """The ascending tuple of the places that are in no greatest lot; empty if there are none."""
    counts, many = counts_and_total(n, word, goal)
    return tuple([place for place, count in enumerate(counts) if many and count == 0])
