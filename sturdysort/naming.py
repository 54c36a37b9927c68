"""Looks at the names of a program that is read: are they told, and told once?"""

from sturdysort.errors import Twice, Unknown, WrongCount
from sturdysort.reading import tree_of


def checked_tree(text):
    """The tree of a program; raises all its errors."""
    tree = tree_of(text)
    check_names(tree)
    return tree


def check_names(tree):
    """Raises the first error of a name, by the order of the text."""
    _, parts, block = tree
    counts = {}
    for name, names, body in parts:
        if name in counts:
            raise Twice(name)
        check_once(names)
        check_block(body, names, counts)
        # Only now: a part is not told in full within its own block.
        counts[name] = len(names)
    check_block(block, (), counts)


def check_once(names):
    """Raises Twice at the first name that has stood before."""
    for at, name in enumerate(names):
        if name in names[:at]:
            raise Twice(name)


def check_block(block, names, counts):
    """Looks at a block; names are those in force, counts those of the parts' numbers."""
    for statement in block:
        check_statement(statement, names, counts)


def check_statement(statement, names, counts):
    """Looks at a statement."""
    key = statement[0]
    if key == "sort":
        check_sum(statement[1], names)
    elif key == "for":
        name, _, first, last, block = statement[1:]
        check_sum(first, names)
        check_sum(last, names)
        check_block(block, (*names, name), counts)
    elif key == "do":
        check_call(statement, names, counts)
    else:
        for block in statement[1:]:
            check_block(block, names, counts)


def check_call(statement, names, counts):
    """Looks at a do."""
    name, sums = statement[1:]
    if name not in counts:
        raise Unknown(name)
    if counts[name] != len(sums):
        raise WrongCount(name)
    for tree in sums:
        check_sum(tree, names)


def check_sum(tree, names):
    """Looks at an E."""
    key = tree[0]
    if key == "name":
        if tree[1] not in names:
            raise Unknown(tree[1])
    elif key not in ("number", "cards"):
        for part in tree[1:]:
            check_sum(part, names)
