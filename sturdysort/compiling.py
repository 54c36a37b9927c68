"""Compiles a program to its word, and lays a word's deeds side by side."""

from sturdysort.errors import BadDeed, NotApart, TooLong, TooMuch
from sturdysort.naming import checked_tree
from sturdysort.reckoning import value_of
from sturdysort.values import MOST_DEEDS, check_cards_and_word

MOST_ROUNDS = 200
MOST_STATEMENTS = 5000


def word_of(text):
    """The word of a program."""
    n, parts, block = checked_tree(text)
    return Run(n, parts).word(block)


class Run:
    """A run of a program, kept on two stacks: parts can call parts deeper than functions may.

    The tasks are what is still to be done, the words what was made of blocks and fors so far.
    A task is (kind, what, names), the names with their values.
    """

    def __init__(self, n, parts):
        self.n = n
        self.parts = {name: (names, block) for name, names, block in parts}
        self.begun = 0
        self.tasks = []
        self.words = []

    def word(self, block):
        """The word of the program's own block."""
        self.plan_block(block, {})
        while self.tasks:
            kind, what, names = self.tasks.pop()
            if kind == "begin":
                self.words.append(())
            elif kind == "statement":
                self.begin_statement(what, names)
            elif kind == "block":
                self.plan_block(what, names)
            elif kind == "put":
                self.put()
            else:
                self.change(kind)
        return self.words.pop()

    def plan(self, tasks):
        """Puts tasks ahead of all that are still to be done."""
        self.tasks.extend(tasks[::-1])

    def plan_block(self, block, names):
        """Plans a block's run, which leaves its word on top of the words."""
        tasks = [("begin", None, None)]
        for statement in block:
            tasks.append(("statement", statement, names))
            tasks.append(("put", None, None))
        self.plan(tasks)

    def put(self):
        """Puts the word on top to the one below it."""
        word = self.words.pop()
        word = self.words.pop() + word
        if len(word) > MOST_DEEDS:
            raise TooLong(MOST_DEEDS)
        self.words.append(word)

    def begin_statement(self, statement, names):
        """Begins a statement, which leaves its word on top of the words."""
        self.begun += 1
        if self.begun > MOST_STATEMENTS:
            raise TooMuch(MOST_STATEMENTS)
        key = statement[0]
        if key == "sort":
            self.words.append((self.deed(statement[1], names),))
        elif key == "for":
            self.plan_loop(statement, names)
        elif key == "do":
            self.plan_call(statement, names)
        else:
            tasks = [("block", block, names) for block in statement[1:]]
            self.plan([*tasks, (key, None, None)])

    def deed(self, tree, names):
        """The deed of an E."""
        value = value_of(tree, self.n, names)
        if not 0 <= value <= self.n - 2:
            raise BadDeed(value)
        return value

    def plan_loop(self, statement, names):
        """Plans the rounds of a for."""
        name, turn, first_tree, last_tree, block = statement[1:]
        first = value_of(first_tree, self.n, names)
        last = value_of(last_tree, self.n, names)
        step = 1 if turn == "up" else -1
        values = range(first, last + step, step)
        if len(values) > MOST_ROUNDS:
            raise TooLong(MOST_ROUNDS)
        tasks = [("begin", None, None)]
        if block:
            # The rounds of an empty block begin no statement, so nothing would bound them.
            for value in values:
                tasks.append(("block", block, {**names, name: value}))
                tasks.append(("put", None, None))
        self.plan(tasks)

    def plan_call(self, statement, names):
        """Plans the block of a part."""
        part, sums = statement[1:]
        own_names, block = self.parts[part]
        values = [value_of(tree, self.n, names) for tree in sums]
        self.plan_block(block, dict(zip(own_names, values)))

    def change(self, key):
        """Changes the word, or the two words, on top as back, mirror or beside tell."""
        word = self.words.pop()
        if key == "back":
            self.words.append(word[::-1])
        elif key == "mirror":
            self.words.append(tuple([self.n - 2 - deed for deed in word]))
        else:
            self.words.append(by_turns(self.words.pop(), word))


def by_turns(word, other):
    """Two words put together by turns."""
    check_apart(word, other)
    both = min(len(word), len(other))
    turns = [deed for pair in zip(word, other) for deed in pair]
    return (*turns, *word[both:], *other[both:])


def check_apart(word, other):
    """Raises NotApart at the first deeds of the two words that are less than two apart."""
    for one in word:
        for deed in other:
            if abs(one - deed) < 2:
                raise NotApart(one, deed)


def rounds(n, word):
    """The list of the rounds of a word's deeds, side by side, as tuples of places."""
    check_cards_and_word(n, word)
    found = []
    # A deed k holds back deeds k - 1, k and k + 1; the two at the rims are never done.
    free_from = [0] * (n + 1)
    for place, deed in enumerate(word):
        at = free_from[deed + 1]
        if at == len(found):
            found.append([])
        found[at].append(place)
        for near in range(deed, deed + 3):
            free_from[near] = max(free_from[near], at + 1)
    return [tuple(places) for places in found]
