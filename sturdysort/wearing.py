"""Costs of deeds, words that wear out, and deeds made sure."""

from itertools import combinations
from math import comb

from sturdysort.chances import all_stretches, weight
from sturdysort.choices import cheapest_places
from sturdysort.errors import BadCosts, BadNumber, BadShare
from sturdysort.shares import NEVER, added, check_chances, common_bottom, is_chance, lowest
from sturdysort.shelling import f_numbers
from sturdysort.values import check_goal, check_task, check_word_that_fails, check_word_up_to, is_from_to

MOST_COST = 1000000
MOST_DEEDS_TO_STRENGTHEN = 10


def check_costs(word, costs):
    """Raises BadCosts if the value is not a tuple of a cost for each deed of the word."""
    if not isinstance(costs, tuple) or len(costs) != len(word):
        raise BadCosts()
    if not all([is_from_to(cost, 0, MOST_COST) for cost in costs]):
        raise BadCosts()


def cheapest(n, word, goal, costs):
    """The pair (sum, places) of the cheapest deeds that are a shortest word to the goal; None if there are none."""
    check_task(n, word, goal)
    check_costs(word, costs)
    return cheapest_places(word, goal, costs)


def survival(n, word, goal, many):
    """The chance that a lot of so many deeds, each such lot alike likely, does no harm."""
    counts = f_numbers(n, word, goal)
    if not is_from_to(many, 0, len(word)):
        raise BadNumber()
    harmless = counts[many] if many < len(counts) else 0
    return lowest(harmless, comb(len(word), many))


def wear(n, word, goal):
    """How many deeds, failing one behind another, have failed on the average when harm is done."""
    number = NEVER
    # One more fails than do no harm, so it is the sum of the chances that 0, 1, 2, .. of them do none.
    for many, harmless in enumerate(f_numbers(n, word, goal)):
        number = added(number, lowest(harmless, comb(len(word), many)))
    return number


def strengthened(n, word, goal, chances, costs, wanted):
    """The pair (sum, lot) of the cheapest deeds that, made sure, bring the chance of no harm to the wanted one.

    None if there are none.
    """
    check_word_that_fails(n, word)
    check_word_up_to(n, word, MOST_DEEDS_TO_STRENGTHEN)
    check_goal(n, goal)
    check_chances(word, chances)
    check_costs(word, costs)
    if not is_chance(wanted):
        raise BadShare()
    pairs = all_stretches(n, word, goal)
    for cost, _, lot in choices_by_cost(costs):
        if is_enough(pairs, made_sure(chances, lot), wanted):
            return cost, lot
    return None


def choices_by_cost(costs):
    """The list of (sum of costs, size, lot) of all lots, ascending."""
    lots = [lot for many in range(len(costs) + 1) for lot in combinations(range(len(costs)), many)]
    return sorted([(sum([costs[place] for place in lot]), len(lot), lot) for lot in lots])


def made_sure(chances, lot):
    """The chances to fail if the deeds of the lot never do."""
    return tuple([NEVER if place in lot else share for place, share in enumerate(chances)])


def is_enough(pairs, chances, wanted):
    """Whether the chance of no harm is the wanted share or more."""
    return weight(pairs, chances) * wanted[1] >= wanted[0] * common_bottom(chances)
