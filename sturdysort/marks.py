"""Cuts a program's text into its marks: words, numbers and signs."""

LETTERS = "abcdefghijklmnopqrstuvwxyz"
FIGURES = "0123456789"
BLANKS = " \n"
MOST_LETTERS = 8
MOST_FIGURES = 2


def marks_of(text):
    """The list of (kind, content, place) of the text's marks, with one of the kind end behind all.

    The kinds are word, number, end, and other for signs and all that can stand nowhere.
    """
    marks = []
    at = 0
    while at < len(text):
        later = place_behind(text, at)
        if text[at] not in BLANKS:
            content = text[at:later]
            marks.append((kind_of(content), content, at))
        at = later
    marks.append(("end", "", len(text)))
    return marks


def place_behind(text, at):
    """The place behind the mark, or the blank, that begins at a place."""
    for alphabet in (LETTERS, FIGURES):
        if text[at] in alphabet:
            while at < len(text) and text[at] in alphabet:
                at += 1
            return at
    return at + 1


def kind_of(content):
    """The kind of a mark that isn't the end."""
    if content[0] in LETTERS and len(content) <= MOST_LETTERS:
        return "word"
    if content[0] in FIGURES and len(content) <= MOST_FIGURES and (content[0] != "0" or content == "0"):
        return "number"
    return "other"
