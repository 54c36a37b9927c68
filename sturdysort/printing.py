"""Checks a program's text and prints it in one form."""

from sturdysort.naming import checked_tree

# How tightly an E holds its parts together: a part that holds less tightly needs brackets.
TIGHTNESS = {"+": 0, "-": 0, "*": 1, "minus": 2, "number": 2, "name": 2, "cards": 2}


def check(text):
    """Raises the errors of a program."""
    checked_tree(text)


def cards_of(text):
    """The program's number of cards."""
    return checked_tree(text)[0]


def printed(text):
    """The program's text in one form."""
    n, parts, block = checked_tree(text)
    words = [f"cards {n}"]
    words.extend([part_text(part) for part in parts])
    words.extend([statement_text(statement) for statement in block])
    return " ".join(words)


def part_text(part):
    """The text of a part."""
    name, names, block = part
    listed = ", ".join(names)
    return f"part {name}({listed}) {block_text(block)}"


def block_text(block):
    """The text of a block."""
    return " ".join(["{", *[statement_text(statement) for statement in block], "}"])


def statement_text(statement):
    """The text of a statement."""
    key = statement[0]
    if key == "sort":
        return f"sort {sum_text(statement[1])}"
    if key == "for":
        name, turn, first, last, block = statement[1:]
        return f"for {name} {turn} {sum_text(first)} to {sum_text(last)} {block_text(block)}"
    if key == "do":
        name, sums = statement[1:]
        listed = ", ".join([sum_text(tree) for tree in sums])
        return f"do {name}({listed})"
    return " ".join([key, *[block_text(one) for one in statement[1:]]])


def sum_text(tree, least=0):
    """The text of an E, in brackets if it holds its parts together less tightly than least."""
    key = tree[0]
    tightness = TIGHTNESS[key]
    if key == "number" or key == "name":
        text = str(tree[1])
    elif key == "cards":
        text = key
    elif key == "minus":
        text = f"-{sum_text(tree[1], tightness)}"
    else:
        # E's are read from the left: only a right part that is as tight needs brackets.
        text = f"{sum_text(tree[1], tightness)} {key} {sum_text(tree[2], tightness + 1)}"
    return text if tightness >= least else f"({text})"
