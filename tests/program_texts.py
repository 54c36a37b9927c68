"""Programs for the tests: the document's grammar, random programs, and what they mean, told once more."""

import re

from sturdysort.errors import BadDeed, NotApart, TooGreat, TooLong, TooMuch

KEYS = "cards part sort for up down to do back mirror beside".split()
GRAMMAR = {
    "<program>": ["cards MANY <parts> <statements>"],
    "<parts>": ["", "<parts> part NAME ( <names> ) <block>"],
    "<names>": ["", "<some names>"],
    "<some names>": ["NAME", "<some names> , NAME"],
    "<block>": ["{ <statements> }"],
    "<statements>": ["", "<statements> <statement>"],
    "<statement>": ["sort <sum>", "for NAME up <sum> to <sum> <block>", "for NAME down <sum> to <sum> <block>",
                    "do NAME ( <sums> )", "back <block>", "mirror <block>", "beside <block> <block>"],
    "<sums>": ["", "<some sums>"],
    "<some sums>": ["<sum>", "<some sums> , <sum>"],
    "<sum>": ["<product>", "<sum> + <product>", "<sum> - <product>"],
    "<product>": ["<factor>", "<product> * <factor>"],
    "<factor>": ["NUMBER", "NAME", "cards", "( <sum> )", "- <factor>"],
}
RULES = [(left, tuple(re.findall(r"<[a-z ]+>|\S+", right))) for left, rights in GRAMMAR.items() for right in rights]
KINDS = {"NUMBER": "0|[1-9][0-9]?", "MANY": "[1-7]", "NAME": "[a-z]{1,8}"}
MARKS = "cards part sort for up down to do back mirror beside a bb 0 1 4 9 10 { } ( ) , + - *".split()


def fits(terminal, mark):
    """Whether a mark is one of a kind."""
    if terminal not in KINDS:
        return terminal == mark
    return re.fullmatch(KINDS[terminal], mark) is not None and mark not in KEYS


def closed(items, sets):
    """An Earley set with all that follows from its items."""
    at = len(sets)
    sets = [*sets, items]
    fresh = True
    while fresh:
        many = len(items)
        for rule, dot, start in list(items):
            right = RULES[rule][1]
            if dot == len(right):
                items |= {(other, place + 1, begun) for other, place, begun in sets[start]
                          if RULES[other][1][place:place + 1] == (RULES[rule][0],)}
            elif right[dot] in GRAMMAR:
                items |= {(k, 0, at) for k, (left, _) in enumerate(RULES) if left == right[dot]}
        fresh = len(items) > many
    return items


SETS = {(): [closed({(0, 0, 0)}, [])]}


def sets_of(marks):
    """The Earley sets of marks; None if they do not begin a program."""
    marks = tuple(marks)
    if marks not in SETS:
        sets = sets_of(marks[:-1])
        if sets is not None:
            items = {(rule, dot + 1, start) for rule, dot, start in sets[-1]
                     if dot < len(RULES[rule][1]) and fits(RULES[rule][1][dot], marks[-1])}
            sets = [*sets, closed(items, sets)] if items else None
        SETS[marks] = sets
    return SETS[marks]


def first_that_cannot_stand(marks):
    """The index of the first mark that cannot stand, or of the end; None for a program."""
    for at in range(len(marks)):
        if sets_of(marks[:at + 1]) is None:
            return at
    done = (0, len(RULES[0][1]), 0) in sets_of(marks)[-1]
    return None if done else len(marks)


def joined(marks):
    """The text of marks, and their places with the text's length behind them."""
    places = []
    at = 0
    for mark in marks:
        places.append(at)
        at += len(mark) + 1
    text = " ".join(marks)
    return text, [*places, len(text)]


def random_marks(source):
    """Marks most of which can stand."""
    marks = ["cards", "5"]
    for _ in range(source.randrange(50)):
        mark = source.choice(MARKS)
        for _ in range(60):
            if source.random() < 0.003 or sets_of([*marks, mark]) is not None:
                break
            mark = source.choice(MARKS)
        marks.append(mark)
        if sets_of(marks) is None:
            break
    return marks


def loosely_joined(source, marks):
    """The text of marks, with blanks and line ends where they may, and must, stand."""
    text = ""
    for mark in marks:
        runs_together = re.search("[a-z][a-z]|[0-9][0-9]", text[-1:] + mark[:1])
        text += source.choice([" ", "\n", "  "] if runs_together else ["", " ", "\n", ""]) + mark
    return text


# A sum is a list of (sign, product), a product a list of factors, a factor a number, a name, ("(", sum), ("-", factor).

def random_factor(source, names, depth):
    kind = source.randrange(8)
    if depth and kind == 0:
        return "(", some_sum(source, names, depth - 1)
    if depth and kind == 1:
        return "-", random_factor(source, names, depth - 1)
    if names and kind < 5:
        return source.choice(names)
    return source.choice([0, 0, 0, 1, 1, 1, 2, 2, 3, 4, "cards", 9 if source.random() < 0.8 else 99])


def some_sum(source, names, depth):
    terms = []
    for _ in range(source.choice([1, 1, 1, 1, 2, 3])):
        product = [random_factor(source, names, depth) for _ in range(source.choice([1, 1, 1, 1, 2, 4]))]
        terms.append((source.choice("+-") if terms else "+", product))
    return terms


def plain_sum(source, names, most):
    """A sum that is often a number up to most."""
    if source.random() < 0.75:
        return [("+", [source.randint(0, max(most, 0))])]
    terms = some_sum(source, names, 2)
    while len(sum_marks(terms)) > 60:
        terms = some_sum(source, names, 2)
    return terms


def some_block(source, n, names, parts, depth):
    many = source.choice([0, 1, 1, 2, 2, 3, 4])
    return [some_statement(source, n, names, parts, depth) for _ in range(many)]


def some_statement(source, n, names, parts, depth):
    kind = source.choice(["sort", "sort", "sort", "for", "for", "do", "back", "mirror", "beside"])
    if kind == "do" and parts:
        part = source.choice(parts)
        return "do", part[0], [plain_sum(source, names, n) for _ in part[1]]
    if depth == 0 or kind in ("sort", "do"):
        return "sort", plain_sum(source, names, n - 2)
    if kind == "for":
        name = source.choice(["i", "j", "k"])
        low, high = plain_sum(source, names, n - 2), plain_sum(source, names, source.choice([n - 2] * 6 + [40]))
        turn = source.choice(["up", "down"])
        return "for", name, turn, low, high, some_block(source, n, [*names, name], parts, depth - 1)
    blocks = [some_block(source, n, names, parts, depth - 1) for _ in range(2 if kind == "beside" else 1)]
    return (kind, *blocks)


def some_program(source):
    """A random program: its text, and (n, parts, block)."""
    text, program = any_program(source)
    while len(text) > 2000:
        text, program = any_program(source)
    return text, program


def any_program(source):
    n = source.choice([1, 2, 3, 4, 5, 6, 7, 7, 7])
    parts = []
    for name in ["a", "bb", "ccc"][:source.randrange(4)]:
        names = ["x", "y"][:source.randrange(3)]
        parts.append((name, names, some_block(source, n, names, parts, 2)))
    block = some_block(source, n, [], parts, 3)
    marks = ["cards", str(n)]
    for name, names, body in parts:
        marks += ["part", name, "(", *listed([[one] for one in names]), ")", *block_marks(body)]
    return loosely_joined(source, marks + block_marks(block)[1:-1]), (n, parts, block)


def listed(several):
    """Lists of marks parted by commas."""
    return [mark for at, marks in enumerate(several) for mark in ([","] if at else []) + marks]


def block_marks(block):
    return ["{", *[mark for statement in block for mark in statement_marks(statement)], "}"]


def statement_marks(statement):
    key = statement[0]
    if key == "sort":
        return ["sort", *sum_marks(statement[1])]
    if key == "do":
        return ["do", statement[1], "(", *listed([sum_marks(one) for one in statement[2]]), ")"]
    if key == "for":
        _, name, turn, first, last, block = statement
        return ["for", name, turn, *sum_marks(first), "to", *sum_marks(last), *block_marks(block)]
    return [key, *[mark for block in statement[1:] for mark in block_marks(block)]]


def sum_marks(terms):
    marks = [mark for sign, product in terms for mark in [sign, *product_marks(product)]]
    return marks[1:]


def product_marks(product):
    marks = [mark for factor in product for mark in ["*", *factor_marks(factor)]]
    return marks[1:]


def factor_marks(factor):
    if isinstance(factor, tuple):
        return ["-", *factor_marks(factor[1])] if factor[0] == "-" else ["(", *sum_marks(factor[1]), ")"]
    return [str(factor)]


class Meaning:
    """What a program means: the same words as point 7's, by plain recursion."""

    def __init__(self, program):
        self.n, parts, self.main = program
        self.parts = {name: (names, block) for name, names, block in parts}
        self.begun = 0

    def word(self):
        return self.of_block(self.main, {})

    def fitting(self, word):
        if len(word) > 200:
            raise TooLong(200)
        return word

    def of_block(self, block, names):
        word = ()
        for statement in block:
            self.begun += 1
            if self.begun > 5000:
                raise TooMuch(5000)
            word = self.fitting(word + self.of_statement(statement, names))
        return word

    def of_statement(self, statement, names):
        key = statement[0]
        if key == "sort":
            deed = self.of_sum(statement[1], names)
            if deed not in range(self.n - 1):
                raise BadDeed(deed)
            return (deed,)
        if key == "for":
            return self.of_for(statement, names)
        if key == "do":
            values = [self.of_sum(one, names) for one in statement[2]]
            return self.of_block(self.parts[statement[1]][1], dict(zip(self.parts[statement[1]][0], values)))
        word = self.of_block(statement[1], names)
        if key == "back":
            return tuple(reversed(word))
        if key == "mirror":
            return tuple([self.n - 2 - deed for deed in word])
        return self.by_turns(word, self.of_block(statement[2], names))

    def of_for(self, statement, names):
        _, name, turn, first, last, block = statement
        start, stop = self.of_sum(first, names), self.of_sum(last, names)
        values = [*range(start, stop + 1)] if turn == "up" else [*range(stop, start + 1)][::-1]
        if len(values) > 200:
            raise TooLong(200)
        word = ()
        for value in values:
            word = self.fitting(word + self.of_block(block, {**names, name: value}))
        return word

    def by_turns(self, word, other):
        near = [(one, deed) for one in word for deed in other if -2 < one - deed < 2]
        if near:
            raise NotApart(*near[0])
        at_both = list(enumerate(word)) + [(at + 0.5, deed) for at, deed in enumerate(other)]
        return tuple([deed for _, deed in sorted(at_both)])

    def of_sum(self, terms, names):
        total = 0
        for at, (sign, product) in enumerate(terms):
            value = self.of_product(product, names)
            total = self.small(total + value if sign == "+" else total - value)
        return total

    def of_product(self, product, names):
        total = 1
        for factor in product:
            total = self.small(total * self.of_factor(factor, names))
        return total

    def of_factor(self, factor, names):
        if isinstance(factor, tuple):
            return -self.of_factor(factor[1], names) if factor[0] == "-" else self.of_sum(factor[1], names)
        if isinstance(factor, int):
            return factor
        return self.n if factor == "cards" else names[factor]

    def small(self, value):
        if abs(value) > 10 ** 6:
            raise TooGreat()
        return value
