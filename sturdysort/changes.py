"""Changes of words, none of which alters what a word does to any row.

Swaps, braids and drops alone lead each word to the least shortest one that does the same; two words
are led to one another by way of it, a drop being taken back by a double.
"""

from sturdysort.errors import BadCards, BadChange, NotAlike, TooLong
from sturdysort.moves import end_of, swapped
from sturdysort.values import MOST_DEEDS, check_cards, check_cards_and_word, check_word, check_word_up_to, is_from_to

KINDS_THAT_A_WORD_LETS = ("braid", "drop", "swap")
MOST_CARDS_TO_LEAD = 5
MOST_DEEDS_TO_LEAD = 40
MOST_DEEDS_TO_COUNT = 24


def changes_of(n, word):
    """The ascending tuple of the braids, drops and swaps that the word lets."""
    check_cards_and_word(n, word)
    pairs = [(kind, at) for kind in KINDS_THAT_A_WORD_LETS for at in range(len(word))]
    return tuple([change for change in pairs if is_let(word, change)])


def is_let(word, change):
    """Whether any value is a change that the word lets."""
    if not isinstance(change, tuple) or len(change) != 2 or not is_from_to(change[1], 0, len(word) - 1):
        return False
    kind, at = change
    first, *rest = word[at:at + 3]
    if kind == "double":
        return True
    if not rest:
        return False
    apart = abs(first - rest[0])
    if kind == "swap":
        return apart > 1
    if kind == "drop":
        return apart == 0
    return kind == "braid" and apart == 1 and rest[1:] == [first]


def changed(n, word, change):
    """The word behind a change that it lets."""
    check_cards_and_word(n, word)
    if not is_let(word, change):
        raise BadChange()
    later = word_behind(word, change)
    if len(later) > MOST_DEEDS:
        raise TooLong(MOST_DEEDS)
    return later


def word_behind(word, change):
    """The word behind a change that it lets; a double may make it too long."""
    kind, at = change
    if kind == "swap":
        return swapped(word, at)
    if kind == "braid":
        return (*word[:at], word[at + 1], word[at], word[at + 1], *word[at + 3:])
    if kind == "drop":
        return without(word, at)
    return word[:at + 1] + word[at:]


def without(word, place):
    """The word without the deed at the place."""
    return word[:place] + word[place + 1:]


def is_led(n, word, other, changes):
    """Whether any value is a tuple of changes that, one behind another, lead the word to the other one."""
    check_cards_and_word(n, word)
    check_word(n, other)
    if not isinstance(changes, tuple):
        return False
    for change in changes:
        if not is_let(word, change):
            return False
        word = word_behind(word, change)
        if len(word) > MOST_DEEDS:
            return False
    return word == other


def led(n, word, other):
    """A tuple of changes that lead the word to the other one."""
    check_cards(n)
    if n > MOST_CARDS_TO_LEAD:
        raise BadCards()
    check_word_up_to(n, word, MOST_DEEDS_TO_LEAD)
    check_word_up_to(n, other, MOST_DEEDS_TO_LEAD)
    if end_of(n, word) != end_of(n, other):
        raise NotAlike()
    back = [taken_back(change) for change in changes_down(other)[::-1]]
    return (*changes_down(word), *back)


def taken_back(change):
    """The change that takes a swap, a braid or a drop back."""
    kind, at = change
    return ("double", at) if kind == "drop" else change


def changes_down(word):
    """The list of the changes that lead the word to the least shortest one that does the same."""
    found = []
    step = step_down(word)
    while step:
        for change in step:
            word = word_behind(word, change)
        found.extend(step)
        step = step_down(word)
    return found


def step_down(word):
    """The list of the changes of one step that makes the word less or shorter; empty if none does."""
    for place in range(1, len(word)):
        step = step_down_at(word, place)
        if step:
            return step
    return []


def step_down_at(word, place):
    """The changes of a step that moves the deed at the place to the left or drops it; empty if there is none."""
    deed = word[place]
    if word[place - 1] > deed + 1:
        return [("swap", place - 1)]
    start = place - 1
    while start > 0 and word[start] < deed and word[start - 1] == word[start] + 1:
        start -= 1
    if word[start] != deed:
        return []
    if start == place - 1:
        return [("drop", start)]
    # Ahead of it stand the deeds k, k - 1, k - 2, ..: the deed k is led past all of them but the first two.
    return [*[("swap", at) for at in range(place - 1, start + 1, -1)], ("braid", start)]


def is_swapped(n, word, other):
    """Whether swaps alone lead the word to the other one."""
    check_cards_and_word(n, word)
    check_word(n, other)
    # What swaps keep is how the deeds that are less than two apart stand, and nothing else.
    return all([near_deeds(word, deed) == near_deeds(other, deed) for deed in range(n - 1)])


def near_deeds(word, deed):
    """The list of the word's deeds that are the deed or the one behind it."""
    return [one for one in word if one in (deed, deed + 1)]


def count_swapped(n, word):
    """How many words swaps alone lead to, the word itself among them."""
    check_cards(n)
    check_word_up_to(n, word, MOST_DEEDS_TO_COUNT)
    ways = {word: 1}
    for _ in range(len(word)):
        ways = ways_one_deed_on(ways)
    return ways[()]


def ways_one_deed_on(ways):
    """In how many ways words are left when one more deed is taken from the front."""
    found = {}
    for word, many in ways.items():
        for _, place in first_deeds(word):
            rest = without(word, place)
            found[rest] = found.get(rest, 0) + many
    return found


def first_deeds(word):
    """The list of the pairs (deed, place) of the deeds that swaps can lead to the front."""
    return [(deed, place) for place, deed in enumerate(word) if all([abs(deed - one) > 1 for one in word[:place]])]


def first_swapped(n, word):
    """The least word that swaps alone lead to."""
    check_cards(n)
    check_word_up_to(n, word, MOST_DEEDS_TO_COUNT)
    found = []
    while word:
        deed, place = min(first_deeds(word))
        found.append(deed)
        word = without(word, place)
    return tuple(found)
