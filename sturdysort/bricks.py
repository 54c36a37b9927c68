"""Bricks between like deeds, prices of cards, and orders of cards that tell a lot."""

from sturdysort.choices import least_places
from sturdysort.errors import BadOrder, BadPrices, SortsNotAll
from sturdysort.lots import all_lots, check_greatest
from sturdysort.moves import end_of, outside, places_of, sorted_row
from sturdysort.strings import exchanged, lots_near, meetings, partners_of, rows_met
from sturdysort.values import check_lot, check_word_that_fails, is_from_to, is_row

MOST_PRICE = 1000000


def bricks(n, word, lot):
    """The tuple that tells for each card at how many bricks it is, for a greatest lot of the word's end."""
    check_word_that_fails(n, word)
    check_greatest(n, word, end_of(n, word), lot)
    return bricks_of(n, word, lot)


def bricks_of(n, word, lot):
    """The bricks of the cards, for a greatest lot that is checked already."""
    rows = rows_met(n, word, lot)
    counts = [0] * n
    row_behind = {}
    for place, deed in enumerate(word):
        # Between like deeds no card leaves the places up to theirs, so one row tells the whole brick.
        for card in row_behind.get(deed, ())[:deed + 1]:
            counts[card] += 1
        row_behind[deed] = rows[place + 1]
    return tuple(counts)


def check_prices(n, prices):
    """Raises BadPrices if the value is not a tuple of a price for each card."""
    if not isinstance(prices, tuple) or len(prices) != n:
        raise BadPrices()
    if not all([is_from_to(price, -MOST_PRICE, MOST_PRICE) for price in prices]):
        raise BadPrices()


def worth_of(n, word, prices, lot):
    """The worth of a greatest lot."""
    return sum([price * many for price, many in zip(prices, bricks_of(n, word, lot))])


def least_worth(n, word, prices):
    """The pair of the least worth and the tuple in order of the greatest lots that have it."""
    check_word_that_fails(n, word)
    check_prices(n, prices)
    lots = all_lots(n, word, end_of(n, word))
    worths = [worth_of(n, word, prices, lot) for lot in lots]
    least = min(worths)
    return least, tuple([lot for lot, worth in zip(lots, worths) if worth == least])


def goes_down(n, word, prices, lot):
    """The tuple of lots from a greatest one on, each by the exchange to the least worth, as long as it is less."""
    check_word_that_fails(n, word)
    check_prices(n, prices)
    check_greatest(n, word, end_of(n, word), lot)
    found = []
    while lot is not None:
        found.append(lot)
        lot = next_down(n, word, prices, lot)
    return tuple(found)


def next_down(n, word, prices, lot):
    """The first one of the lots of least worth to which an exchange leads; None if it isn't less."""
    worths = {near: worth_of(n, word, prices, near) for near in lots_near(n, word, lot)}
    here = worth_of(n, word, prices, lot)
    least = min(worths.values(), default=here)
    if least >= here:
        return None
    # Of lots of one size the first one in their order is the greatest one as a tuple.
    return max([near for near, worth in worths.items() if worth == least])


def check_sorts_all(n, word):
    """Raises the errors of a word whose lots are asked for, SortsNotAll if it does not sort every row."""
    check_word_that_fails(n, word)
    if end_of(n, word) != sorted_row(n):
        raise SortsNotAll()


def lot_for(n, word, order):
    """The one greatest lot of the sorted goal at each of whose touches the card in front is ahead in the order."""
    check_sorts_all(n, word)
    if not is_row(order, n):
        raise BadOrder()
    lot = outside(word, least_places(word, sorted_row(n), ()))
    wrong = wrong_places(n, word, order, lot)
    while wrong:
        # Each such exchange leads to a lesser worth if cards have their places in the order as prices: so it ends.
        lot = exchanged(lot, wrong[0], partners_of(n, word, lot)[wrong[0]])
        wrong = wrong_places(n, word, order, lot)
    return lot


def wrong_places(n, word, order, lot):
    """The list of the places of a lot at which the card in front is behind the other one in the order."""
    ranks = places_of(order)
    pairs = meetings(n, word, lot)
    return [place for place in lot if ranks[pairs[place][0]] > ranks[pairs[place][1]]]


def touches(n, word, lot):
    """The ascending tuple of the unlike pairs (card in front, card behind) that touch at the places of the lot."""
    check_word_that_fails(n, word)
    check_lot(word, lot)
    return touching_pairs(n, word, lot)


def touching_pairs(n, word, lot):
    """The pairs that touch, for values that are checked already."""
    pairs = meetings(n, word, lot)
    return tuple(sorted({pairs[place] for place in lot}))


def is_ringless(n, word, lot):
    """Whether some order of the cards has the first one of each touching pair ahead of the second one."""
    return bool(orders_with(n, touches(n, word, lot)))


def orders_with(n, pairs):
    """The ascending list of the orders of n cards that have the first one of each pair ahead of the second one."""
    orders = [()]
    for _ in range(n):
        orders = [(*order, card) for order in orders for card in range(n) if may_follow(order, card, pairs)]
    return orders


def may_follow(order, card, pairs):
    """Whether the card is none of a begun order, in which all cards are that must be ahead of it."""
    return card not in order and all([first in order for first, second in pairs if second == card])


def orders_of(n, word, lot):
    """The ascending tuple of the orders whose lot it is, for a greatest lot of the sorted goal."""
    check_sorts_all(n, word)
    check_greatest(n, word, sorted_row(n), lot)
    return tuple(orders_with(n, touching_pairs(n, word, lot)))
