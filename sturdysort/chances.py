"""The chance that the deeds that fail do no harm, and the least lots that harm."""

from sturdysort.lots import all_lots, size_and_lot
from sturdysort.moves import length_to
from sturdysort.shares import NEVER, SURELY, check_chances, common_bottom, lowest
from sturdysort.shelling import h_numbers, stretches
from sturdysort.values import check_place, check_task

MOST_LOTS_FOR_HARMS = 500


def chance(n, word, goal, chances):
    """The chance, a share, that the deeds that fail do no harm."""
    check_task(n, word, goal)
    check_chances(word, chances)
    return chance_of_no_harm(n, word, goal, chances)


def chance_of_no_harm(n, word, goal, chances):
    """The chance that no harm is done, for values that are checked already."""
    return lowest(weight(all_stretches(n, word, goal), chances), common_bottom(chances))


def all_stretches(n, word, goal):
    """The list of the pairs (fixed places, lot) of all greatest lots."""
    return stretches(n, word, all_lots(n, word, goal))


def weight(pairs, chances):
    """The chance that the failing deeds lie in one of the stretches, times the bottoms of all chances."""
    return sum([weight_of_stretch(places, lot, chances) for places, lot in pairs])


def weight_of_stretch(places, lot, chances):
    """The chance that the failing deeds lie between the places and the lot, times the bottoms of all chances."""
    product = 1
    for place, (top, bottom) in enumerate(chances):
        if place not in lot:
            product *= bottom - top
        elif place in places:
            product *= top
        else:
            product *= bottom
    return product


def chance_numbers(n, word, goal):
    """The numbers c0, c1, .. for which the chance is c0 + c1 q + .. if all deeds fail with chance q."""
    # The chance is the sum of h_numbers times powers of q, times 1 - q for each deed that must work.
    numbers = list(h_numbers(n, word, goal))
    for _ in range(length_to(goal)):
        numbers = [here - before for here, before in zip([*numbers, 0], [0, *numbers])]
    while numbers and numbers[-1] == 0:
        numbers.pop()
    return tuple(numbers)


def worth(n, word, goal, chances, place):
    """The chance if the deed at the place surely works, less that if it surely fails."""
    check_task(n, word, goal)
    check_chances(word, chances)
    check_place(place, len(word) - 1)
    pairs = all_stretches(n, word, goal)
    working = (*chances[:place], NEVER, *chances[place + 1:])
    failing = (*chances[:place], SURELY, *chances[place + 1:])
    return lowest(weight(pairs, working) - weight(pairs, failing), common_bottom(working))


def least_harms(n, word, goal):
    """The tuple of the lots that do harm but none of whose deeds could be left out, fewer deeds first."""
    check_task(n, word, goal)
    lots = [lot_of_mask(word, mask) for mask in masks_of_least_harms(n, word, goal)]
    return tuple(sorted(lots, key=size_and_lot))


def masks_of_least_harms(n, word, goal):
    """The list of the least lots that harm; the bits of a mask stand for places."""
    harms = [0]
    for places, lot in stretches(n, word, all_lots(n, word, goal, MOST_LOTS_FOR_HARMS)):
        # Of the lots that harmed so far just those of this stretch do so no more: its fixed places are the least one.
        freed = mask_of(places)
        harms.remove(freed)
        grown = [freed | (1 << place) for place in range(len(word)) if place not in lot]
        harms = harms + least_of(grown, harms)
    return harms


def least_of(masks, harms):
    """The list of the masks that have none of the harms within them."""
    return [mask for mask in masks if not has_any(mask, harms)]


def has_any(mask, harms):
    """Whether the mask has one of the harms within it."""
    for harm in harms:
        if harm & mask == harm:
            return True
    return False


def mask_of(places):
    """The mask with the bits of the places."""
    return sum([1 << place for place in places])


def lot_of_mask(word, mask):
    """The ascending tuple of the places whose bits the mask has."""
    return tuple([place for place in range(len(word)) if mask & (1 << place)])


def sturdy(n, word, goal):
    """The greatest k such that any k deeds may fail at no harm; -1 if the word doesn't reach the goal."""
    harms = least_harms(n, word, goal)
    return len(harms[0]) - 1 if harms else len(word)
