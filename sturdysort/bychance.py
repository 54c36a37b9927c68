"""Rows that are sorted by deeds drawn by chance."""

from sturdysort.errors import BadDraws, BadRow, BadTimes, NeverSorted
from sturdysort.moves import is_out_of_order, sorted_row, swapped
from sturdysort.shares import NEVER, SURELY, added, common_bottom, is_chance, lowest, multiplied
from sturdysort.values import check_row, is_from_to

LEAST_CARDS = 2
MOST_CARDS_OF_DRAWS = 5
MOST_PART_OF_DRAWS = 1000
MOST_TIMES = 12


def check_row_and_draws(row, draws):
    """Raises BadRow or BadDraws."""
    check_row(row)
    if not LEAST_CARDS <= len(row) <= MOST_CARDS_OF_DRAWS:
        raise BadRow()
    if not are_draws(draws, len(row) - 1):
        raise BadDraws()


def are_draws(value, many):
    """Whether the value is a tuple of so many chances with the sum 1."""
    if not isinstance(value, tuple) or len(value) != many:
        return False
    if not all([is_chance(share, MOST_PART_OF_DRAWS) for share in value]):
        return False
    return sum(weights_of(value)) == common_bottom(value)


def weights_of(draws):
    """The list of the chances times the bottoms of all of them."""
    bottom = common_bottom(draws)
    return [top * (bottom // its_bottom) for top, its_bottom in draws]


def expected(row, draws):
    """The expected number of draws until the row is sorted."""
    check_row_and_draws(row, draws)
    weights = weights_of(draws)
    number = NEVER
    met = {row: SURELY}
    # Each exchange puts one pair in order, so the rows met by so many exchanges are sorted all at once.
    while sorted_row(len(row)) not in met:
        for one, share in met.items():
            number = added(number, multiplied(share, (sum(weights), weight_of_moves(one, weights))))
        met = met_by_one_more(met, weights)
    return number


def moves_of(row, weights):
    """The list of the pairs (row behind a deed, weight) of the deeds that may be drawn and exchange cards."""
    deeds = [deed for deed, weight in enumerate(weights) if weight and is_out_of_order(row, deed)]
    return [(swapped(row, deed), weights[deed]) for deed in deeds]


def weight_of_moves(row, weights):
    """The weight of all draws that change the row, which is not sorted."""
    weight = sum([one for _, one in moves_of(row, weights)])
    if weight == 0:
        raise NeverSorted()
    return weight


def met_by_one_more(met, weights):
    """The chances that rows are met by one more exchange."""
    found = {}
    for row, share in met.items():
        whole = weight_of_moves(row, weights)
        for later, weight in moves_of(row, weights):
            found[later] = added(found.get(later, NEVER), multiplied(share, (weight, whole)))
    return found


def behind(row, draws, times):
    """The dict that tells the chance of each row behind so many draws, those with chance 0 left out."""
    check_row_and_draws(row, draws)
    if not is_from_to(times, 0, MOST_TIMES):
        raise BadTimes()
    weights = weights_of(draws)
    counts = {row: 1}
    bottom = 1
    for _ in range(times):
        counts = behind_one_draw(counts, weights)
        bottom *= sum(weights)
    return {one: lowest(count, bottom) for one, count in counts.items()}


def behind_one_draw(counts, weights):
    """The rows' chances behind one more draw, times the sum of the weights."""
    found = {}
    for row, count in counts.items():
        for deed, weight in enumerate(weights):
            if weight:
                later = swapped(row, deed) if is_out_of_order(row, deed) else row
                found[later] = found.get(later, 0) + count * weight
    return found
