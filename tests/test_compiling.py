"""Points 7 and 8: the words of programs, their errors in the order of the run, and rounds."""

import random
import unittest

from helpers import Cases, ODD_VALUES, WRONG_CARDS, WRONG_WORDS_OF_3, all_deed_words
from program_texts import Meaning, some_program
from sturdysort.compiling import rounds, word_of
from sturdysort.errors import (
    BadCards, BadDeed, BadWord, InvalidText, NotApart, NotText, SortError, TooGreat, TooLong, TooMuch, Twice, Unknown,
    WrongCount,
)


class Words(Cases):
    def test_sort(self):
        self.answers((), word_of, "cards 3")
        self.answers((0, 1, 0), word_of, "cards 3 sort 0 sort 1 sort 0")
        self.answers((5, 3), word_of, "cards 7 sort cards - 2 sort 2 * 3 - 3")

    def test_bad_deeds(self):
        self.refuses(BadDeed, word_of, "cards 3 sort 2", value=2)
        self.refuses(BadDeed, word_of, "cards 3 sort -1", value=-1)
        self.refuses(BadDeed, word_of, "cards 1 sort 0", value=0)
        self.refuses(BadDeed, word_of, "cards 7 sort 0 sort 99 * 99 sort 7", value=9801)
        for n in range(2, 8):
            self.answers((n - 2,), word_of, f"cards {n} sort {n - 2}")
            self.refuses(BadDeed, word_of, f"cards {n} sort {n - 1}", value=n - 1)

    def test_sums(self):
        for text, value in (("1 - 2 + 3", 2), ("5 - 2 - 1", 2), ("2 * 3 - 4", 2), ("6 - 2 * 2", 2), ("-(-3)", 3),
                            ("--3", 3), ("2 * -1 + 5", 3), ("2 - -1", 3), ("(1 + 1) * 2", 4), ("-2 * -2", 4),
                            ("-(1 - 3) * 2", 4), ("9 - (4 - 1) - 2", 4), ("cards * 0", 0), ("cards - cards", 0),
                            ("2 * (1 + 1) * 1", 4), ("9 - 2 * (1 + 1)", 5), ("-cards + 9", 2), ("1 - 1 * 1 + 5", 5)):
            self.answers((value,), word_of, f"cards 7 sort {text}")

    def test_for(self):
        self.answers((1, 2, 3), word_of, "cards 7 for i up 1 to 3 { sort i }")
        self.answers((3, 2, 1), word_of, "cards 7 for i down 3 to 1 { sort i }")
        self.answers((2,), word_of, "cards 7 for i up 2 to 2 { sort i }")
        self.answers((2,), word_of, "cards 7 for i down 2 to 2 { sort i }")
        self.answers((), word_of, "cards 7 for i up 2 to 1 { sort 9 }")
        self.answers((), word_of, "cards 7 for i down 1 to 2 { sort 9 }")
        self.answers((), word_of, "cards 7 for i up 99 to -99 { sort 9 }")
        self.answers((2, 1, 0), word_of, "cards 7 for i up -2 to 0 { sort -i }")
        self.answers((0, 0, 1, 2, 1), word_of,
                     "cards 7 for i up 0 to 1 { for j down i to 0 { sort i - j } } "
                     "for i up 2 to 2 { sort i sort i - 1 }")

    def test_a_name_is_its_own_block_s(self):
        self.answers((1, 3, 4, 1, 2, 3, 4, 2), word_of,
                     "cards 7 for i up 1 to 2 { sort i for i up 3 to 4 { sort i } sort i }")
        self.answers((2, 1), word_of, "cards 7 part a(i) { sort i } for i up 1 to 1 { do a(i + 1) sort i }")

    def test_do(self):
        self.answers((1, 0, 2, 1, 0), word_of,
                     "cards 7 part a(x, y) { sort x sort y } part b() { do a(2, 1) sort 0 } do a(1, 0) do b()")
        self.answers((4, 3), word_of, "cards 7 part a(x) { for x down x to x - 1 { sort x } } do a(4)")
        self.answers((), word_of, "cards 7 part a(x) { sort x }")

    def test_back_and_mirror(self):
        self.answers((2, 1, 0), word_of, "cards 7 back { sort 0 sort 1 sort 2 }")
        self.answers((5, 4, 0), word_of, "cards 7 mirror { sort 0 sort 1 sort 5 }")
        self.answers((0,), word_of, "cards 2 mirror { sort 0 }")
        self.answers((), word_of, "cards 1 mirror { back { } }")
        self.answers((1, 4, 5), word_of, "cards 7 mirror { back { sort 0 back { sort 4 sort 1 } } }")

    def test_beside(self):
        self.answers((0, 3, 1, 3, 0), word_of, "cards 5 beside { sort 0 sort 1 sort 0 } { sort 3 sort 3 }")
        self.answers((3, 0, 3, 1, 0), word_of, "cards 5 beside { sort 3 sort 3 } { sort 0 sort 1 sort 0 }")
        self.answers((0, 3, 1), word_of, "cards 5 beside { sort 0 sort 1 } { sort 3 }")
        self.answers((0, 2), word_of, "cards 5 beside { sort 0 } { sort 2 }")
        self.answers((1,), word_of, "cards 5 beside { } { sort 1 }")
        self.answers((1,), word_of, "cards 5 beside { sort 1 } { }")
        self.answers((), word_of, "cards 5 beside { } { }")

    def test_nested_statements(self):
        self.answers((4, 1, 5, 0), word_of,
                     "cards 7 part a(x) { sort x back { sort x - 1 } } beside { mirror { do a(1) } } "
                     "{ for i down 1 to 0 { sort i } }")
        self.answers((3, 4, 5, 4, 5, 5), word_of,
                     "cards 7 mirror { back { for t down 2 to 0 { back { for k down 2 - t to 0 { sort k } } } } }")
        self.answers((0, 2, 4, 0), word_of,
                     "cards 6 for i up 0 to 0 { beside { beside { sort i back { sort i } } { sort 4 } } "
                     "{ sort i + 2 } }")

    def test_random_programs(self):
        source = random.Random(7)
        words = 0
        for _ in range(4000):
            text, program = some_program(source)
            try:
                meant = Meaning(program).word()
            except SortError as error:
                self.refuses(type(error), word_of, text, **vars(error))
            else:
                words += bool(meant)
                self.assertEqual(word_of(text), meant, text)
        self.assertGreater(words, 1000)

    def test_deep_calls(self):
        # Parts that call parts in nested blocks run deeper than functions may call functions.
        letters = "abcdefghijklmnopqrstuvwxyz"
        text = "cards 3 part a() {" + "back{" * 28 + "sort 0 sort 1" + "}" * 29
        for name, called in zip(letters[1:10], letters):
            text += f"part {name}(){{" + "back{" * 28 + f"do {called}()" + "}" * 29
        self.assertLessEqual(len(text + "do j()"), 2000)
        self.answers((0, 1), word_of, text + "do j()")


class NotTwoApart(Cases):
    def test_which_deeds_are_told(self):
        self.refuses(NotApart, word_of, "cards 7 beside { sort 0 } { sort 1 }", one=0, other=1)
        self.refuses(NotApart, word_of, "cards 7 beside { sort 1 } { sort 0 }", one=1, other=0)
        self.refuses(NotApart, word_of, "cards 7 beside { sort 3 } { sort 3 }", one=3, other=3)
        self.refuses(NotApart, word_of, "cards 7 beside { sort 0 sort 3 sort 5 } { sort 2 sort 5 sort 4 sort 3 }",
                     one=3, other=2)
        self.refuses(NotApart, word_of, "cards 7 beside { sort 0 sort 4 sort 3 } { sort 2 sort 5 }", one=4, other=5)

    def test_behind_both_blocks(self):
        self.refuses(BadDeed, word_of, "cards 7 beside { sort 0 } { sort 1 sort 9 }", value=9)
        self.refuses(BadDeed, word_of, "cards 7 beside { sort 8 } { sort 9 }", value=8)
        self.refuses(NotApart, word_of, "cards 7 beside { sort 0 } { sort 1 } sort 9", one=0, other=1)
        self.refuses(BadDeed, word_of, "cards 7 sort 9 beside { sort 0 } { sort 1 }", value=9)

    def test_ahead_of_the_word_s_length(self):
        block = "{ for i up 0 to 99 + 1 { sort 0 } }"
        self.refuses(NotApart, word_of, f"cards 7 beside {block} {block}", one=0, other=0)


class Lengths(Cases):
    def many(self, k, deed=0):
        """A block of k deeds."""
        return f"for i up 1 to {k} {{ sort {deed} }}" if k < 100 else \
            f"for i up 1 to 99 {{ sort {deed} }} {self.many(k - 99, deed)}"

    def test_200_and_201_deeds(self):
        self.answers((0,) * 200, word_of, f"cards 3 {self.many(200)}")
        self.refuses(TooLong, word_of, f"cards 3 {self.many(201)}", most=200)
        self.answers((0,) * 200, word_of, "cards 3 " + "sort 0 " * 200)
        self.refuses(TooLong, word_of, "cards 3 " + "sort 0 " * 201, most=200)
        for key in ("back", "mirror"):
            self.answers((1,) * 200, word_of, f"cards 3 {key} {{ {self.many(200, int(key == 'back'))} }}")
            self.refuses(TooLong, word_of, f"cards 3 {key} {{ {self.many(201)} }}", most=200)
        self.answers((0,) * 200, word_of, f"cards 3 part a() {{ {self.many(200)} }} do a()")
        self.refuses(TooLong, word_of, f"cards 3 part a() {{ {self.many(201)} }} do a()", most=200)

    def test_200_and_201_rounds(self):
        self.answers((0,) * 200, word_of, "cards 3 for i up -99 to 99 + 1 { sort 0 }")
        self.answers((0,) * 200, word_of, "cards 3 for i down 99 + 1 to -99 { sort 0 }")
        self.answers((), word_of, "cards 3 for i up 1 to 2 * 99 + 2 { }")
        for turn in ("up -99 to 99 + 2", "down 99 + 2 to -99", "up 1 to 99 * 99", "down 0 to -99 * 99"):
            self.refuses(TooLong, word_of, f"cards 3 for i {turn} {{ }}", most=200)
            self.refuses(TooLong, word_of, f"cards 3 for i {turn} {{ sort 9 }}", most=200)

    def test_as_soon_as_one_is_longer(self):
        self.refuses(TooLong, word_of, f"cards 3 {self.many(200)} sort 0 sort 9", most=200)
        self.refuses(BadDeed, word_of, f"cards 3 {self.many(200)} sort 9 sort 0", value=9)
        # The word of a for is looked at behind each round, and so ahead of the bad deed of the next one.
        text = "cards 3 for i up 1 to 9 {{ for j up 1 to 50 {{ sort 0 }} for j up {0} to i {{ sort 9 }} }}"
        self.refuses(BadDeed, word_of, text.format(5), value=9)
        self.refuses(TooLong, word_of, text.format(6), most=200)

    def test_a_for_and_a_block_are_made_whole_for_themselves(self):
        for inner in ("for i up 1 to 2 { sort 0 sort 9 }", "back { sort 0 sort 9 }", "mirror { sort 0 sort 9 }",
                      "beside { sort 0 sort 9 } { }", "do a()"):
            self.refuses(BadDeed, word_of, f"cards 3 part a() {{ sort 0 sort 9 }} {self.many(200)} {inner}", value=9)
        self.refuses(TooGreat, word_of, f"cards 3 {self.many(200)} for i up 1 to 2 {{ sort 0 sort 99 * 99 * 99 * 99 }}")

    def test_beside(self):
        self.answers((0, 3) * 100, word_of, f"cards 5 beside {{ {self.many(100)} }} {{ {self.many(100, 3)} }}")
        self.refuses(TooLong, word_of, f"cards 5 beside {{ {self.many(101)} }} {{ {self.many(100, 3)} }}", most=200)
        self.refuses(TooLong, word_of,
                     f"cards 5 for i up 1 to 1 {{ beside {{ {self.many(101)} }} {{ {self.many(100, 3)} }} sort 9 }}",
                     most=200)
        self.refuses(TooLong, word_of, f"cards 5 beside {{ {self.many(201)} }} {{ sort 9 }}", most=200)


class Greatness(Cases):
    def test_a_million_and_one(self):
        million = "(99 * 99 * 99 + 99 * 99 * 3 + 99 * 3 + 1)"
        self.refuses(BadDeed, word_of, f"cards 3 sort {million}", value=10 ** 6)
        self.refuses(BadDeed, word_of, f"cards 3 sort -{million}", value=-10 ** 6)
        self.refuses(BadDeed, word_of, f"cards 3 sort -{million} + 1 - 1", value=-10 ** 6)
        self.refuses(TooGreat, word_of, f"cards 3 sort {million} + 1")
        self.refuses(TooGreat, word_of, f"cards 3 sort {million} + 1 - 1")
        self.refuses(TooGreat, word_of, f"cards 3 sort -{million} - 1")
        self.refuses(TooGreat, word_of, f"cards 3 sort -{million} - 1 + 1")
        self.refuses(TooGreat, word_of, f"cards 3 sort ({million} + 1) * 0")
        self.refuses(TooGreat, word_of, f"cards 3 sort 0 * ({million} + 1)")
        self.answers((0,), word_of, f"cards 3 sort 0 * {million}")
        self.answers((1,), word_of, f"cards 3 for i up {million} to {million} {{ sort i - i + 1 }}")
        self.refuses(TooGreat, word_of, f"cards 3 for i up {million} to {million} {{ sort i + 1 - i }}")

    def test_in_each_kind_of_e(self):
        great = "99 * 99 * 99 * 2"
        self.refuses(TooGreat, word_of, f"cards 3 for i up {great} to 9 {{ }}")
        self.refuses(TooGreat, word_of, f"cards 3 for i up 0 to {great} {{ }}")
        self.refuses(TooGreat, word_of, f"cards 3 part a(b) {{ }} do a({great})")
        self.refuses(TooGreat, word_of, f"cards 3 sort {great}")

    def test_order_of_the_run(self):
        great = "99 * 99 * 99 * 2"
        self.refuses(BadDeed, word_of, f"cards 3 sort 9 sort {great}", value=9)
        self.refuses(TooGreat, word_of, f"cards 3 sort {great} sort 9")
        self.answers((), word_of, f"cards 3 for i up 1 to 0 {{ sort {great} }}")
        self.answers((), word_of, f"cards 3 part a() {{ sort {great} }}")
        self.refuses(TooGreat, word_of, f"cards 3 for i up 0 to {great} {{ sort 9 }}")
        self.refuses(BadDeed, word_of, f"cards 3 for i up 0 to 1 {{ sort 9 }} sort {great}", value=9)


class Begun(Cases):
    def test_5000_and_5001_statements(self):
        # 1 + 49 * (1 + 99) are begun, then 2, then as many as are put in.
        text = "cards 3 for i up 1 to 49 { for j up 1 to 99 { back { } } } back { for i up 1 to {0} { back { } } }"
        self.answers((), word_of, text.replace("{0}", "97"))
        self.refuses(TooMuch, word_of, text.replace("{0}", "98"), most=5000)
        for last in ("sort 0", "sort 9", "for i up 1 to 99 * 99 { }", "back { }", "mirror { }", "beside { } { }",
                     "do a()", "sort 99 * 99 * 99 * 99"):
            head = "cards 3 part a() { } "
            full = head + text[8:].replace("{0}", "97")
            self.refuses(TooMuch, word_of, full + last, most=5000)
            almost = head + text[8:].replace("{0}", "96")
            try:
                word_of(almost + last)
            except TooMuch:
                self.fail(last)
            except SortError:
                pass
            self.refuses(TooMuch, word_of, almost + "back { " + last + " }", most=5000)

    def test_in_the_order_of_the_run(self):
        text = "cards 3 for i up 1 to 49 { for j up 1 to 99 { back { } } } back { for i up 1 to 99 { back { } } }"
        self.refuses(TooMuch, word_of, text + " sort 9", most=5000)
        self.refuses(BadDeed, word_of, text[:8] + "sort 9 " + text[8:], value=9)

    def test_many_empty_rounds(self):
        self.refuses(TooMuch, word_of,
                     "cards 3 for i up 1 to 99 { for j up 1 to 99 { for k up 1 to 99 { for l up 1 to 99 { } } } }",
                     most=5000)


class BehindCheck(Cases):
    def test_errors_of_check_come_first(self):
        self.refuses_each(NotText, word_of, [""], 0, ODD_VALUES)
        self.refuses(InvalidText, word_of, "cards 3 sort 9 sort", place=19)
        self.refuses(Unknown, word_of, "cards 3 sort 9 sort k", name="k")
        self.refuses(Twice, word_of, "cards 3 part a(b, b) { } sort 9", name="b")
        self.refuses(WrongCount, word_of, "cards 3 part a() { } sort 9 do a(1)", name="a")


class Rounds(Cases):
    def test_all_short_words(self):
        for n, longest in ((1, 3), (2, 4), (3, 5), (4, 5), (5, 4)):
            for word in all_deed_words(n, longest):
                self.assertEqual(rounds(n, word), meant_rounds(word))

    def test_long_words(self):
        source = random.Random(3)
        for _ in range(50):
            n = source.randrange(2, 8)
            word = tuple([source.randrange(n - 1) for _ in range(200)])
            self.answers(meant_rounds(word), rounds, n, word)
        self.refuses(BadWord, rounds, 3, (0,) * 201)

    def test_edges(self):
        self.answers([], rounds, 3, ())
        self.answers([], rounds, 1, ())
        self.answers([(0, 1, 2)], rounds, 7, (0, 2, 4))
        self.answers([(0, 1, 2)], rounds, 7, (4, 2, 0))
        self.answers([(0,), (1,), (2,)], rounds, 7, (0, 1, 2))

    def test_wrong_values(self):
        self.refuses_each(BadCards, rounds, [3, (0, 1)], 0, WRONG_CARDS)
        self.refuses_each(BadWord, rounds, [3, (0, 1)], 1, WRONG_WORDS_OF_3)
        self.refuses_in_order(rounds, (3, (8, BadCards)), ((0,), ((2,), BadWord)))


def meant_rounds(word):
    """Point 8's words."""
    number = []
    for place, deed in enumerate(word):
        held = [number[k] for k in range(place) if abs(word[k] - deed) < 2]
        number.append(max(held) + 1 if held else 0)
    return [tuple([k for k in range(len(word)) if number[k] == one]) for one in range(max(number, default=-1) + 1)]


if __name__ == "__main__":
    unittest.main()
