"""Shares: pairs (top, bottom) of integers in lowest terms."""

from math import gcd

from sturdysort.errors import BadChances
from sturdysort.values import is_from_to

MOST_PART = 1000000
NEVER = (0, 1)
SURELY = (1, 1)


def lowest(top, bottom):
    """The share top / bottom in lowest terms."""
    common = gcd(top, bottom)
    return top // common, bottom // common


def added(share, other):
    """The sum of two shares."""
    return lowest(share[0] * other[1] + other[0] * share[1], share[1] * other[1])


def multiplied(share, other):
    """The product of two shares."""
    return lowest(share[0] * other[0], share[1] * other[1])


def is_chance(value, most=MOST_PART):
    """Whether the value is a share from 0 to 1 whose parts are not too great."""
    if not isinstance(value, tuple) or len(value) != 2:
        return False
    top, bottom = value
    return is_from_to(bottom, 1, most) and is_from_to(top, 0, bottom) and lowest(top, bottom) == value


def check_chances(word, chances):
    """Raises BadChances if the value is not a tuple of a chance for each deed of the word."""
    if not isinstance(chances, tuple) or len(chances) != len(word) or not all([is_chance(one) for one in chances]):
        raise BadChances()


def common_bottom(shares):
    """The product of the bottoms of shares."""
    product = 1
    for _, bottom in shares:
        product *= bottom
    return product
