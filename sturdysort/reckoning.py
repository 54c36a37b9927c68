"""Reckons the E's of a program."""

from sturdysort.errors import TooGreat

MOST = 1000000


def value_of(tree, n, names):
    """The value of an E for n cards and the names with their values."""
    value = bare_value(tree, n, names)
    if abs(value) > MOST:
        raise TooGreat()
    return value


def bare_value(tree, n, names):
    """The value of an E whose parts are looked at but it itself not yet."""
    key = tree[0]
    if key == "number":
        return tree[1]
    if key == "name":
        return names[tree[1]]
    if key == "cards":
        return n
    first = value_of(tree[1], n, names)
    if key == "minus":
        return -first
    second = value_of(tree[2], n, names)
    if key == "+":
        return first + second
    return first - second if key == "-" else first * second
