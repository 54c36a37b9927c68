"""Reads a program's text to a tree of tuples.

A program is (number of cards, parts, block), a part (name, names, block), a block a tuple of
statements: ("sort", E), ("for", name, "up" or "down", E, E, block), ("do", name, E's),
("back", block), ("mirror", block), ("beside", block, block). An E is ("number", value),
("name", name), ("cards",), ("minus", E), or ("+", E, E) and so with "-" and "*".
"""

from sturdysort.errors import InvalidText, NotText
from sturdysort.marks import marks_of
from sturdysort.values import MOST_CARDS

KEYS = ("cards", "part", "sort", "for", "up", "down", "to", "do", "back", "mirror", "beside")
STATEMENTS = ("sort", "for", "do", "back", "mirror", "beside")
MOST_SIGNS = 2000
MOST_BRACKETS = 30
MOST_MARKS_OF_SUM = 60


def tree_of(text):
    """The tree of a program; raises NotText and InvalidText."""
    if not isinstance(text, str):
        raise NotText()
    if len(text) > MOST_SIGNS:
        raise InvalidText(MOST_SIGNS)
    reader = Reader(text)
    return reader.take_program()


class Reader:
    """Takes a text's marks from the left and refuses the first one that cannot stand."""

    def __init__(self, text):
        self.marks = marks_of(text)
        self.at = 0
        self.depth = 0
        self.room = None

    def kind(self):
        """The kind of the next mark."""
        return self.marks[self.at][0]

    def content(self):
        """The next mark as it stands in the text; the empty text at its end."""
        return self.marks[self.at][1]

    def refuse(self):
        """Raises the error of a mark that cannot stand."""
        raise InvalidText(self.marks[self.at][2])

    def take(self):
        """Takes the next mark, unless it stands within too many brackets or too late in an E."""
        content = self.content()
        if content in ("{", "("):
            self.enter()
        if content in ("}", ")"):
            self.depth -= 1
        if self.room is not None:
            self.spend()
        self.at += 1
        return content

    def enter(self):
        """Counts a bracket that is opened."""
        if self.depth == MOST_BRACKETS:
            self.refuse()
        self.depth += 1

    def spend(self):
        """Counts a mark of an E."""
        if self.room == 0:
            self.refuse()
        self.room -= 1

    def expect(self, content):
        """Takes the next mark if it is the one that must stand here."""
        if self.content() != content:
            self.refuse()
        self.take()

    def take_name(self):
        """Takes a name."""
        if self.kind() != "word" or self.content() in KEYS:
            self.refuse()
        return self.take()

    def take_program(self):
        """Takes the whole text."""
        self.expect("cards")
        n = self.take_cards()
        parts = []
        while self.content() == "part":
            parts.append(self.take_part())
        block = self.take_statements()
        if self.kind() != "end":
            self.refuse()
        return n, tuple(parts), block

    def take_cards(self):
        """Takes the number of cards."""
        if self.kind() != "number" or not 1 <= int(self.content()) <= MOST_CARDS:
            self.refuse()
        return int(self.take())

    def take_part(self):
        """Takes a part."""
        self.expect("part")
        name = self.take_name()
        self.expect("(")
        names = []
        if self.content() != ")":
            names.append(self.take_name())
        while self.content() == ",":
            self.take()
            names.append(self.take_name())
        self.expect(")")
        return name, tuple(names), self.take_block()

    def take_block(self):
        """Takes a block."""
        self.expect("{")
        block = self.take_statements()
        self.expect("}")
        return block

    def take_statements(self):
        """Takes statements as long as there are any."""
        block = []
        while self.content() in STATEMENTS:
            block.append(self.take_statement())
        return tuple(block)

    def take_statement(self):
        """Takes a statement."""
        key = self.take()
        if key == "sort":
            return key, self.take_whole_sum()
        if key == "for":
            return self.take_loop()
        if key == "do":
            return self.take_call()
        first = self.take_block()
        if key == "beside":
            return key, first, self.take_block()
        return key, first

    def take_loop(self):
        """Takes what stands behind the word for."""
        name = self.take_name()
        if self.content() not in ("up", "down"):
            self.refuse()
        turn = self.take()
        first = self.take_whole_sum()
        self.expect("to")
        last = self.take_whole_sum()
        return "for", name, turn, first, last, self.take_block()

    def take_call(self):
        """Takes what stands behind the word do."""
        name = self.take_name()
        self.expect("(")
        sums = []
        if self.content() != ")":
            sums.append(self.take_whole_sum())
        while self.content() == ",":
            self.take()
            sums.append(self.take_whole_sum())
        self.expect(")")
        return "do", name, tuple(sums)

    def take_whole_sum(self):
        """Takes an E that stands in no other one."""
        self.room = MOST_MARKS_OF_SUM
        tree = self.take_sum()
        self.room = None
        return tree

    def take_sum(self):
        """Takes an E."""
        tree = self.take_product()
        while self.content() in ("+", "-"):
            tree = (self.take(), tree, self.take_product())
        return tree

    def take_product(self):
        """Takes a product of an E."""
        tree = self.take_factor()
        while self.content() == "*":
            tree = (self.take(), tree, self.take_factor())
        return tree

    def take_factor(self):
        """Takes a factor of a product of an E."""
        if self.kind() == "number":
            return "number", int(self.take())
        if self.content() == "cards":
            self.take()
            return ("cards",)
        if self.content() == "-":
            self.take()
            return "minus", self.take_factor()
        if self.content() == "(":
            self.take()
            tree = self.take_sum()
            self.expect(")")
            return tree
        return "name", self.take_name()
