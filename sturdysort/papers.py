"""Papers, which show of a lot that it is harmless or that it harms."""

from sturdysort.choices import least_places
from sturdysort.moves import count_less, end_of, left_of, reaches
from sturdysort.values import check_lot, check_task, is_from_to, is_lot


def paper(n, word, goal, lot):
    """The least paper on a lot: ("fine", places) or ("harms", i, v)."""
    check_task(n, word, goal)
    check_lot(word, lot)
    places = least_places(word, goal, lot)
    if places is not None:
        return "fine", places
    row = end_of(n, left_of(word, lot))
    numbers = range(n + 1)
    least = min([(i, v) for i in numbers for v in numbers if has_fewer(row, goal, i, v)])
    return "harms", *least


def has_fewer(row, goal, i, v):
    """Whether of the first i cards fewer are less than v than of the goal's."""
    return count_less(row, i, v) < count_less(goal, i, v)


def judged(n, word, goal, lot, paper):
    """Whether any value is a paper on the lot that shows what it tells."""
    check_task(n, word, goal)
    check_lot(word, lot)
    if not isinstance(paper, tuple):
        return False
    if len(paper) == 2 and paper[0] == "fine":
        return shows_fine(word, goal, lot, paper[1])
    if len(paper) == 3 and paper[0] == "harms":
        return shows_harm(end_of(n, left_of(word, lot)), goal, paper[1], paper[2])
    return False


def shows_fine(word, goal, lot, places):
    """Whether any value is a tuple of places, none of them in the lot, whose deeds alone reach the goal."""
    if not is_lot(places, word) or any([place in lot for place in places]):
        return False
    return reaches(tuple([word[place] for place in places]), goal)


def shows_harm(row, goal, i, v):
    """Whether any two values are numbers that show that the row is not as sorted as the goal."""
    n = len(goal)
    return is_from_to(i, 0, n) and is_from_to(v, 0, n) and has_fewer(row, goal, i, v)
