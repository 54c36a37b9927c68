"""Cards as strings that pass or touch one another, and exchanges of failing deeds."""

from sturdysort.errors import BadPlace
from sturdysort.lots import all_lots, check_greatest
from sturdysort.moves import swapped, turned_row
from sturdysort.values import check_lot, check_task, check_word_that_fails, is_integer


def meets(n, word, lot):
    """For each deed the pair (card in front, card behind) that it finds."""
    check_word_that_fails(n, word)
    check_lot(word, lot)
    return tuple(meetings(n, word, lot))


def meetings(n, word, lot):
    """The list of the pairs that the deeds find, for a lot that is checked already."""
    return [(row[deed], row[deed + 1]) for row, deed in zip(rows_met(n, word, lot), word)]


def rows_met(n, word, lot):
    """The list of the rows ahead of each deed and behind all, each working deed passing its two cards."""
    rows = [turned_row(n)]
    for place, deed in enumerate(word):
        row = rows[-1]
        rows.append(row if place in lot else swapped(row, deed))
    return rows


def exchange(n, word, goal, lot, place):
    """The pair (other, partner) of a greatest lot and a place in it; None if there is none."""
    check_task(n, word, goal)
    check_greatest(n, word, goal, lot)
    if not is_integer(place) or place not in lot:
        raise BadPlace()
    partner = partners_of(n, word, lot).get(place)
    if partner is None:
        return None
    return exchanged(lot, place, partner), partner


def exchanged(lot, place, partner):
    """The lot with the partner instead of the place."""
    return tuple(sorted([partner if one == place else one for one in lot]))


def partners_of(n, word, lot):
    """The dict that tells the partner for each place of a greatest lot that has one."""
    pairs = meetings(n, word, lot)
    passes = {unordered(pair): place for place, pair in enumerate(pairs) if place not in lot}
    return {place: passes[unordered(pairs[place])] for place in lot if unordered(pairs[place]) in passes}


def unordered(pair):
    """The pair with its lesser card first."""
    return min(pair), max(pair)


def rises(n, word, goal, lot):
    """The ascending tuple of the places of a greatest lot whose partner is later."""
    check_task(n, word, goal)
    check_greatest(n, word, goal, lot)
    return rising_places(n, word, lot)


def rising_places(n, word, lot):
    """The rises of a greatest lot that is checked already."""
    return tuple([place for place, partner in partners_of(n, word, lot).items() if partner > place])


def falls(n, word, goal, lot):
    """The ascending tuple of the places of a greatest lot whose partner is earlier."""
    check_task(n, word, goal)
    check_greatest(n, word, goal, lot)
    return tuple([place for place, partner in partners_of(n, word, lot).items() if partner < place])


def least_steps(n, word, goal, lot, other):
    """The fewest exchanges that lead a greatest lot to another one."""
    return len(way_of_lots(n, word, goal, lot, other)) - 1


def way_of_lots(n, word, goal, lot, other):
    """Of the ways of fewest exchanges between two greatest lots the first one by the lots' numbers."""
    check_task(n, word, goal)
    check_greatest(n, word, goal, lot)
    check_greatest(n, word, goal, other)
    lots = all_lots(n, word, goal)
    numbers = {one: number for number, one in enumerate(lots)}
    steps = steps_to_lot(n, word, other)
    found = [lot]
    while lot != other:
        nearer = [numbers[near] for near in lots_near(n, word, lot) if steps[near] < steps[lot]]
        lot = lots[min(nearer)]
        found.append(lot)
    return tuple(found)


def lots_near(n, word, lot):
    """The list of the lots to which exchanges of a greatest lot lead."""
    return [exchanged(lot, place, partner) for place, partner in partners_of(n, word, lot).items()]


def steps_to_lot(n, word, goal_lot):
    """For each greatest lot how few exchanges lead from it to one of them."""
    # An exchange is taken back by another one, so the steps are counted from where they shall lead.
    steps = {goal_lot: 0}
    reached = [goal_lot]
    while reached:
        found = []
        for lot in reached:
            for near in lots_near(n, word, lot):
                if near not in steps:
                    steps[near] = steps[lot] + 1
                    found.append(near)
        reached = found
    return steps


def drawn(n, word, lot):
    """The drawing of the strings: a text of 2 n - 1 lines."""
    check_word_that_fails(n, word)
    check_lot(word, lot)
    rows = rows_met(n, word, lot)
    lines = []
    for place in range(n):
        if place:
            lines.append(line_of_signs(word, lot, place - 1))
        lines.append("   ".join([str(row[place]) for row in rows]))
    return "".join([line + "\n" for line in lines])


def line_of_signs(word, lot, deed):
    """The line between the places of a deed, which shows where it works and where it fails."""
    signs = []
    for place, one in enumerate(word):
        if one != deed:
            signs.append("   ")
        elif place in lot:
            signs.append("  =")
        else:
            signs.append("  x")
    return " ".join(signs).rstrip(" ")
