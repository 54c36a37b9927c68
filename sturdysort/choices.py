"""Greatest harmless lots as choices, deed by deed, for values that are checked already.

What is left of the word where a greatest lot fails is a shortest word that leads the turned row
to the goal. So a row met on the way is kept only if the rest of the word can lead on to the goal.
"""

from sturdysort.moves import behind, is_out_of_order, left_of, length_to, places_of, steps_to, swapped, turned_row


def tables_of(n, word, goal):
    """For each place, and the end, of the word the dict that tells for rows in how many ways the rest leads on.

    The rest leads on by a shortest word; rows with no way are left out.
    """
    tables = [{goal: 1}]
    for deed in reversed(word):
        tables.append(table_ahead(tables[-1], deed))
    tables.reverse()
    return tables


def table_ahead(table, deed):
    """The table ahead of a deed, made of that behind it."""
    found = {row: table[row] for row in table}
    for row, ways in table.items():
        if not is_out_of_order(row, deed):
            ahead = swapped(row, deed)
            found[ahead] = found.get(ahead, 0) + ways
    return found


def worked(row, deed):
    """The row behind a deed that works on a shortest way; None if the deed cannot."""
    return swapped(row, deed) if is_out_of_order(row, deed) else None


def total(n, tables):
    """How many greatest lots there are."""
    return tables[0].get(turned_row(n), 0)


def lots_in_order(n, word, tables):
    """The list of all greatest lots in their order."""
    start = turned_row(n)
    found = [((), start)] if start in tables[0] else []
    for place, deed in enumerate(word):
        found = lots_grown(found, place, deed, tables[place + 1])
    return [lot for lot, _ in found]


def lots_grown(found, place, deed, table):
    """The begun lots and their rows behind one more deed: first it works, then it fails."""
    grown = []
    for lot, row in found:
        row_if_it_works = worked(row, deed)
        if row_if_it_works in table:
            grown.append((lot, row_if_it_works))
        if row in table:
            grown.append(((*lot, place), row))
    return grown


def lot_with_number(n, word, tables, number):
    """The greatest lot with a number that there is."""
    row = turned_row(n)
    lot = []
    for place, deed in enumerate(word):
        row_if_it_works = worked(row, deed)
        ways = tables[place + 1].get(row_if_it_works, 0)
        if number < ways:
            row = row_if_it_works
        else:
            number -= ways
            lot.append(place)
    return tuple(lot)


def number_of_lot(n, word, tables, lot):
    """The number of a greatest lot."""
    row = turned_row(n)
    number = 0
    for place, deed in enumerate(word):
        row_if_it_works = worked(row, deed)
        if place in lot:
            number += tables[place + 1].get(row_if_it_works, 0)
        else:
            row = row_if_it_works
    return number


def counts_of_working(n, word, tables):
    """For each place in how many greatest lots it is not."""
    counts = []
    reached = {turned_row(n): 1}
    for place, deed in enumerate(word):
        table = tables[place + 1]
        counts.append(sum([ways * table.get(worked(row, deed), 0) for row, ways in reached.items()]))
        reached = reached_behind(reached, deed, table)
    return counts


def reached_behind(reached, deed, table):
    """In how many ways rows are reached behind a deed, of those from which the rest leads on."""
    found = {}
    for row, ways in reached.items():
        for later in (row, worked(row, deed)):
            if later in table:
                found[later] = found.get(later, 0) + ways
    return found


def least_places(word, goal, lot):
    """The least tuple of places, the lot failing, whose deeds are a shortest word from the turned row to the goal.

    None if there is none.
    """
    row = turned_row(len(goal))
    places = []
    for place, deed in enumerate(word):
        # No need to look ahead: if a later deed can begin the way that is left, so can this one.
        if place not in lot and deed in steps_to(row, goal):
            places.append(place)
            row = swapped(row, deed)
    return tuple(places) if row == goal else None


def cheapest_places(word, goal, costs):
    """The pair (sum, places) of the places with the least sum of costs, and of these of the least ones.

    Their deeds are a shortest word that leads the turned row to the goal. None if there are no such places.
    """
    aims = places_of(goal)
    ways = {turned_row(len(goal)): (0, ())}
    for place, deed in enumerate(word):
        for row, (spent, places) in list(ways.items()):
            # Cards past one another never change back, so only those that must pass do.
            if aims[row[deed]] > aims[row[deed + 1]]:
                later = swapped(row, deed)
                way = (spent + costs[place], (*places, place))
                ways[later] = min(way, ways.get(later, way))
    return ways.get(goal)


def is_greatest(n, word, goal, lot):
    """Whether the lot is a greatest one."""
    left = left_of(word, lot)
    return len(left) == length_to(goal) and behind(turned_row(n), left) == goal
