"""Points 5 and 6, and of point 7 cards_of: the texts of programs, their errors and their one form."""

import ast
import random
import re
import unittest

from helpers import Cases, ODD_VALUES
from program_texts import first_that_cannot_stand, joined, random_marks, some_program
from sturdysort.compiling import word_of
from sturdysort.errors import InvalidText, NotText, SortError, Twice, Unknown, WrongCount
from sturdysort.printing import cards_of, check, printed


class Texts(Cases):
    """Each function that takes a text raises these errors."""

    def invalid(self, text, place):
        for function in (check, printed, cards_of, word_of):
            self.refuses(InvalidText, function, text, place=place)

    def valid(self, text):
        self.answers(None, check, text)
        self.assertIsInstance(printed(text), str)


class Values(Texts):
    def test_no_text(self):
        for function in (check, printed, cards_of, word_of):
            self.refuses_each(NotText, function, [""], 0, ODD_VALUES + [(), 3, ["cards 3"], ("cards 3",)])
            self.refuses(NotText, function, b"cards 3")

    def test_2000_and_2001_signs(self):
        self.valid("cards 3" + " " * 1993)
        self.invalid("cards 3" + " " * 1994, 2000)
        self.invalid("?" * 2000, 0)
        self.invalid("?" * 2001, 2000)
        self.invalid("cards 9" + "\n" * 2500, 2000)

    def test_cards_of(self):
        for n in range(1, 8):
            self.answers(n, cards_of, f"cards {n}")
        self.answers(4, cards_of, "cards 4 part go(k) { sort k } do go(99)")
        self.refuses(Unknown, cards_of, "cards 4 sort k", name="k")


class Marks(Texts):
    def test_blanks_and_line_ends(self):
        self.valid("cards 3")
        self.valid("cards3sort0sort1")
        self.valid("\n cards\n\n3 \n sort  0\n")
        self.valid("cards 3 for i up 0 to 1{sort i}")
        for sign in "\t\r\f\v\u00a0\u2028":
            self.invalid(f"cards 3{sign}sort 0", 7)

    def test_words_that_run_together(self):
        self.invalid("cards 3 sortk", 8)
        self.invalid("cards 3 fori up 0 to 1 { }", 8)
        self.invalid("cards 3 for iup 0 to 1 { }", 16)
        self.valid("cards 3 for i up 0to1{}")
        self.invalid("cards 3 sort 0 1", 15)
        self.invalid("cards 3 sort 01", 13)
        self.valid("cards 3 back{}mirror{}")
        self.invalid("cards 3 backback{}", 8)

    def test_words_of_8_and_9_letters(self):
        self.valid("cards 3 part abcdefgh(zyxwvuts) { sort zyxwvuts } do abcdefgh(1)")
        self.invalid("cards 3 part abcdefghi() { }", 13)
        self.invalid("cards 3 for abcdefghi up 0 to 1 { }", 12)
        self.invalid("cards 3 sort abcdefghi", 13)
        self.invalid("cards 3 abcdefghi", 8)
        self.invalid("abcdefghi", 0)

    def test_numbers(self):
        self.valid("cards 3 sort 99")
        self.valid("cards 3 sort 0")
        self.valid("cards 3 sort 10 + 90")
        for number in ("100", "999", "00", "01", "007", "1" * 1000, "099"):
            self.invalid(f"cards 3 sort 2 + {number}", 17)
        self.invalid("cards 03", 6)
        self.invalid("cards 100", 6)

    def test_signs_that_stand_nowhere(self):
        for sign in "ABZ_.;:!?/=<>[]#'\"@&|^~`$\\\u00e9\u0663\u00b2\u4e00\0":
            self.invalid(sign, 0)
            self.invalid(f"cards{sign}3", 5)
            self.invalid(f"cards 3 sort 1{sign}", 14)
            self.invalid(f"cards 3 sort k{sign}", 14)
        self.invalid("Cards 3", 0)
        self.invalid("cards 3 sort kK", 14)

    def test_keys_are_no_names(self):
        keys = ("cards", "part", "sort", "for", "up", "down", "to", "do", "back", "mirror", "beside")
        for key in keys:
            self.invalid(f"cards 3 part {key}() {{ }}", 13)
            self.invalid(f"cards 3 part a({key}) {{ }}", 15)
            self.invalid(f"cards 3 part a(b, {key}) {{ }}", 18)
            self.invalid(f"cards 3 for {key} up 0 to 1 {{ }}", 12)
            self.invalid(f"cards 3 do {key}()", 11)
            if key != "cards":
                self.invalid(f"cards 3 sort {key}", 13)
            self.valid(f"cards 3 part {key}s() {{ }} do {key}s()")


class Forms(Texts):
    def test_head(self):
        self.invalid("", 0)
        self.invalid("  ", 2)
        self.invalid("cards", 5)
        self.invalid("cards ", 6)
        self.invalid("3", 0)
        self.invalid("sort 0", 0)
        self.invalid("cards 0", 6)
        self.invalid("cards 8", 6)
        self.invalid("cards 10", 6)
        self.invalid("cards (3)", 6)
        self.invalid("cards -3", 6)
        self.invalid("cards 3 cards 3", 8)
        self.invalid("cards 3 3", 8)

    def test_parts(self):
        self.valid("cards 3 part a() { }")
        self.valid("cards 3 part a(b) { } part c(d, e, f) { sort d do a(e) }")
        self.invalid("cards 3 sort 0 part a() { }", 15)
        self.invalid("cards 3 part", 12)
        self.invalid("cards 3 part a", 14)
        self.invalid("cards 3 part a { }", 15)
        self.invalid("cards 3 part a(", 15)
        self.invalid("cards 3 part a(,b) { }", 15)
        self.invalid("cards 3 part a(b,) { }", 17)
        self.invalid("cards 3 part a(b c) { }", 17)
        self.invalid("cards 3 part a(1) { }", 15)
        self.invalid("cards 3 part a(b", 16)
        self.invalid("cards 3 part a(b) sort b", 18)
        self.invalid("cards 3 part a(b) { part c() { } }", 20)
        self.invalid("cards 3 part a() { ", 19)
        self.invalid("cards 3 part a() { ) }", 19)

    def test_statements(self):
        self.valid("cards 3 sort 0 for i up 0 to 1 { } for i down 1 to 0 { } back { } mirror { } beside { } { }")
        self.invalid("cards 3 sort", 12)
        self.invalid("cards 3 sort }", 13)
        self.invalid("cards 3 for", 11)
        self.invalid("cards 3 for 1 up 0 to 1 { }", 12)
        self.invalid("cards 3 for i", 13)
        self.invalid("cards 3 for i to 1 { }", 14)
        self.invalid("cards 3 for i up to 1 { }", 17)
        self.invalid("cards 3 for i up 0 1 { }", 19)
        self.invalid("cards 3 for i up 0 { }", 19)
        self.invalid("cards 3 for i up 0 to { }", 22)
        self.invalid("cards 3 for i up 0 to 1 sort 0", 24)
        self.invalid("cards 3 back sort 0", 13)
        self.invalid("cards 3 mirror", 14)
        self.invalid("cards 3 beside { }", 18)
        self.invalid("cards 3 beside { } sort 0", 19)
        self.invalid("cards 3 }", 8)
        self.invalid("cards 3 { }", 8)
        self.invalid("cards 3 back { }}", 16)
        self.invalid("cards 3 k", 8)
        self.invalid("cards 3 up", 8)

    def test_dos(self):
        head = "cards 3 part a() { } part b(c) { } part d(e, f) { } "
        self.valid(head + "do a() do b(1) do d(1, (2))")
        at = len(head)
        self.invalid(head + "do", at + 2)
        self.invalid(head + "do 1()", at + 3)
        self.invalid(head + "do a", at + 4)
        self.invalid(head + "do a sort 0", at + 5)
        self.invalid(head + "do a(", at + 5)
        self.invalid(head + "do b(,1)", at + 5)
        self.invalid(head + "do b(1,)", at + 7)
        self.invalid(head + "do b(1 2)", at + 7)
        self.invalid(head + "do b(1 }", at + 7)
        self.invalid(head + "do b(1", at + 6)

    def test_sums(self):
        for text in ("0", "-1", "--1", "- - 1", "(1)", "cards", "-cards", "1+2-3*4", "1*-2", "1--2", "(1)*(2)", "-(1)"):
            self.valid(f"cards 3 sort {text}")
        for text, place in (
                ("+1", 0), ("*1", 0), ("1+", 2), ("1+*2", 2), ("1**2", 2), ("()", 1), ("(1", 2), ("(1}", 2), ("1)", 1),
                ("1 2", 2), ("1(2)", 1), ("(1)(2)", 3), ("(1)2", 3), ("-", 1), ("-+1", 1), ("1,2", 1), ("(1,2)", 2),
                ("cards 2", 6), ("cards cards", 6), ("1-{", 2), ("1 - sort", 4), ("(sort 1)", 1)):
            self.invalid(f"cards 3 sort {text}", 13 + place)

    def test_two_thousand_signs_of_all_kinds(self):
        text = "cards 3 " + "sort 0 " * 284
        self.assertEqual(len(text), 1996)
        self.valid(text)
        self.invalid(text + "so", 1996)


class Limits(Texts):
    def test_60_parts_of_a_sum(self):
        sixty = "-1" + "+1" * 29
        self.valid(f"cards 3 sort {sixty}")
        self.valid(f"cards 3 sort {sixty} sort {sixty}")
        self.valid(f"cards 3 for i up {sixty} to {sixty} {{ }}")
        self.valid(f"cards 3 part a(b, c) {{ }} do a({sixty}, {sixty})")
        place = 13 + len(sixty)
        self.invalid(f"cards 3 sort {sixty}+1", place)
        self.invalid(f"cards 3 sort {sixty}-1", place)
        self.invalid(f"cards 3 sort {sixty} * 1", place + 1)
        self.invalid(f"cards 3 sort {sixty}+", place)
        self.invalid(f"cards 3 sort {'-' * 60}1", 13 + 60)
        self.valid(f"cards 3 sort {'-' * 59}1")
        self.invalid(f"cards 3 sort {'-' * 60}", 13 + 60)
        self.invalid(f"cards 3 sort 1{'+1' * 29}+1", 13 + 60)

    def test_words_and_brackets_of_a_sum_count(self):
        self.valid(f"cards 3 sort cards{' * cards' * 29}")
        self.invalid(f"cards 3 sort cards{' * cards' * 30}", len(f"cards 3 sort cards{' * cards' * 29} * "))
        self.valid("cards 3 sort -((1)" + "+(1)" * 13 + "+1)")
        self.invalid("cards 3 sort --((1)" + "+(1)" * 13 + "+1)", len("cards 3 sort --((1)" + "+(1)" * 13 + "+1"))
        self.invalid("cards 3 sort ((1)" + "+(1)" * 14 + ")", len("cards 3 sort ((1)" + "+(1)" * 14))
        self.invalid("cards 3 sort -((1)" + "+(1)" * 14 + ")", len("cards 3 sort ((1)" + "+(1)" * 14))
        text = "cards 3 sort -(" + "1" + "+1" * 28 + ")"
        self.valid(text)
        text = "cards 3 sort (--" + "1" + "+1" * 28 + ")"
        self.invalid(text, len(text) - 1)
        self.invalid(text[:-1] + "*2)", len(text) - 1)

    def test_sums_of_a_for_and_a_do_count_apart(self):
        sixty = "-k" + "+k" * 29
        self.valid(f"cards 3 for k up 0 to 1 {{ for l up {sixty} to {sixty} {{ sort {sixty} }} }}")
        text = f"cards 3 part a(b) {{ }} for k up 0 to 1 {{ do a({sixty}"
        self.invalid(text + "+1) }", len(text))

    def test_30_brackets(self):
        self.valid("cards 3 " + "back {" * 30 + "}" * 30)
        self.invalid("cards 3 " + "back{" * 31 + "}" * 31, 8 + 5 * 31 - 1)
        self.valid("cards 3 sort " + "(" * 29 + "1" + ")" * 29)
        self.invalid("cards 3 sort " + "(" * 30 + "1", 13 + 31)
        self.invalid("cards 3 sort " + "(" * 31 + "1", 13 + 30)
        self.valid("cards 3 sort " + "(" * 29 + "1" + ")" * 29 + " sort " + "(" * 29 + "1" + ")" * 29)

    def test_brackets_of_all_kinds_count(self):
        inside = "back{" * 30
        self.valid("cards 3 " + "back{" * 29 + "sort(1)" + "}" * 29)
        self.valid("cards 3 " + "back{" * 29 + "sort(1)*(2)" + "}" * 29)
        self.invalid("cards 3 " + inside + "sort(1)" + "}" * 30, 8 + 150 + 4)
        self.invalid("cards 3 " + "back{" * 29 + "sort((1))" + "}" * 29, 8 + 145 + 5)
        head = "cards 3 part a(b) { } "
        self.valid(head + "back{" * 28 + "do a((1))" + "}" * 28)
        self.invalid(head + "back{" * 29 + "do a((1))" + "}" * 29, len(head) + 145 + 5)
        self.invalid(head + inside + "do a(1)" + "}" * 30, len(head) + 150 + 4)
        self.valid("cards 3 part a() {" + "back{" * 29 + "}" * 29 + "}")
        self.invalid("cards 3 part a() {" + inside + "}" * 30 + "}", 18 + 149)
        text = "cards 3 part a(b) {" + "for i up 0 to (1) {" * 28
        self.valid(text + "sort (1)" + "}" * 29)
        self.invalid(text + "sort ((1))" + "}" * 29, len(text) + 6)
        self.valid("cards 3 " + "beside { } {" * 30 + "}" * 30)
        self.invalid("cards 3 " + "beside { } {" * 30 + "beside {", 8 + 12 * 30 + 7)


class Names(Texts):
    def test_twice(self):
        self.refuses(Twice, check, "cards 3 part a() { } part a() { }", name="a")
        self.refuses(Twice, check, "cards 3 part a(b, c, b, c) { }", name="b")
        self.refuses(Twice, check, "cards 3 part a(b, c, c, b) { }", name="c")
        self.valid("cards 3 part a(a) { sort a } part b(a) { do a(a) for a up a to a { sort a } } do b(1)")

    def test_unknown_names(self):
        self.refuses(Unknown, check, "cards 3 sort k", name="k")
        self.refuses(Unknown, check, "cards 3 part a(b) { sort c }", name="c")
        self.refuses(Unknown, check, "cards 3 part a(b) { } sort b", name="b")
        self.refuses(Unknown, check, "cards 3 part a(b) { } part c() { sort b }", name="b")
        self.refuses(Unknown, check, "cards 3 for i up i to 1 { }", name="i")
        self.refuses(Unknown, check, "cards 3 for i up 0 to i { }", name="i")
        self.refuses(Unknown, check, "cards 3 for i up 0 to 1 { sort i } sort i", name="i")
        self.refuses(Unknown, check, "cards 3 part a() { } sort a", name="a")
        self.refuses(Unknown, check, "cards 3 sort 1 + 2 * -(3 - k)", name="k")
        self.refuses(Unknown, check, "cards 3 sort l - k", name="l")
        self.refuses(Unknown, check, "cards 3 part a(b, c) { } do a(k, l)", name="k")
        self.valid("cards 3 for i up 0 to 1 { for i up i to i { sort i } sort i }")
        self.refuses(Unknown, check, "cards 3 for i up 0 to 1 { for j up 0 to 1 { } sort j }", name="j")

    def test_names_in_force_in_nested_blocks(self):
        self.valid("cards 3 for i up 0 to 1 { back { sort i } mirror { sort i } beside { sort i } { sort i } }")
        for block in ("back { sort k }", "mirror { sort k }", "beside { sort k } { }", "beside { } { sort k }"):
            self.refuses(Unknown, check, f"cards 3 {block}", name="k")

    def test_unknown_parts(self):
        self.refuses(Unknown, check, "cards 3 do a()", name="a")
        self.refuses(Unknown, check, "cards 3 part a() { do a() }", name="a")
        self.refuses(Unknown, check, "cards 3 part a() { do b() } part b() { }", name="b")
        self.refuses(Unknown, check, "cards 3 for a up 0 to 1 { do a() }", name="a")
        self.refuses(Unknown, check, "cards 3 part a(b) { do b() }", name="b")
        self.refuses(Unknown, check, "cards 3 do a(k)", name="a")

    def test_wrong_counts(self):
        head = "cards 3 part a() { } part b(c) { } part d(e, f) { } "
        for name, right in (("a", 0), ("b", 1), ("d", 2)):
            for many in range(4):
                text = head + f"do {name}({', '.join(['1'] * many)})"
                if many == right:
                    self.valid(text)
                else:
                    self.refuses(WrongCount, check, text, name=name)

    def test_the_first_one_by_the_order_of_the_text(self):
        self.refuses(WrongCount, check, "cards 3 part a() { } do a(k) sort l", name="a")
        self.refuses(Unknown, check, "cards 3 part a() { } sort l do a(k)", name="l")
        self.refuses(Unknown, check, "cards 3 part a(b) { sort c } part a() { }", name="c")
        self.refuses(Twice, check, "cards 3 part a(b) { } part a(c, c) { sort d }", name="a")
        self.refuses(Twice, check, "cards 3 part a(c, c) { sort d }", name="c")
        self.refuses(Unknown, check, "cards 3 part a(b) { do a(b, b) }", name="a")
        self.refuses(Unknown, check, "cards 3 part a(b) { } do a(k) do a()", name="k")
        self.refuses(Unknown, check, "cards 3 for i up k to l { sort m }", name="k")
        self.refuses(Unknown, check, "cards 3 for i up 0 to l { sort m }", name="l")
        self.refuses(Unknown, check, "cards 3 for i up 0 to 1 { sort m } sort n", name="m")
        self.refuses(Unknown, check, "cards 3 beside { sort k } { sort l }", name="k")

    def test_invalid_texts_come_first(self):
        self.refuses(InvalidText, check, "cards 3 sort k sort", place=19)
        self.refuses(InvalidText, check, "cards 3 part a() { } part a() { } do b(1,)", place=41)

    def test_each_function_raises_them(self):
        for function in (check, printed, cards_of, word_of):
            self.refuses(Twice, function, "cards 3 part a(b, b) { }", name="b")
            self.refuses(Unknown, function, "cards 3 sort 9 sort k", name="k")
            self.refuses(WrongCount, function, "cards 3 part a() { } sort 9 do a(1)", name="a")


class AgainstAGrammar(Texts):
    """An independent reader of the document's grammar tells where a text stops to be one."""

    def test_each_mark_replaced_left_out_or_put_ahead(self):
        program = ("cards 3 part a ( b , c ) { sort b } part d ( ) { } for i up 0 to - cards { do a ( i * 2 , ( 1 ) ) "
                   "do d ( ) } for j down 1 to 0 { back { } } mirror { sort 1 } beside { } { sort 0 }").split()
        others = "cards part sort for up to do back beside zz 1 9 { } ( ) , + - * ?".split()
        for at in range(len(program) + 1):
            for mark in others:
                self.look_at([*program[:at], mark, *program[at:]])
                self.look_at([*program[:at], mark, *program[at + 1:]])
            self.look_at(program[:at])
            self.look_at([*program[:at], *program[at + 1:]])

    def test_random_marks(self):
        source = random.Random(5)
        for _ in range(1500):
            self.look_at(random_marks(source))

    def look_at(self, marks):
        text, places = joined(marks)
        wrong = first_that_cannot_stand(marks)
        try:
            check(text)
        except InvalidText as error:
            self.assertEqual(error.place, places[wrong] if wrong is not None else None, text)
        except SortError:
            self.assertIsNone(wrong, text)
        else:
            self.assertIsNone(wrong, text)


class Printing(Texts):
    def test_one_form(self):
        for text, form in (
                ("cards3", "cards 3"),
                ("\ncards 3\n\nsort   0\n", "cards 3 sort 0"),
                ("cards 3 part a(){}", "cards 3 part a() { }"),
                ("cards 3 part a ( b ,c,  d ) {}do a (1 ,2,( 3 ))",
                 "cards 3 part a(b, c, d) { } do a(1, 2, 3)"),
                ("cards 3 for i up 0to 1{sort i}", "cards 3 for i up 0 to 1 { sort i }"),
                ("cards 3 for i down(1)to(-0){}", "cards 3 for i down 1 to -0 { }"),
                ("cards 3 back{sort 0}mirror{}", "cards 3 back { sort 0 } mirror { }"),
                ("cards 3 beside{sort 0}{sort 1sort 0}", "cards 3 beside { sort 0 } { sort 1 sort 0 }"),
                ("cards 3 back{back{}}", "cards 3 back { back { } }")):
            self.answers(form, printed, text)

    def test_sums(self):
        for text, form in (
                ("-  1", "-1"), ("- -1", "--1"), ("-(-1)", "--1"), ("1-2", "1 - 2"), ("1- -2", "1 - -2"),
                ("1*-2", "1 * -2"), ("1--2", "1 - -2"), ("- - - cards", "---cards"),
                ("((1))", "1"), ("(1+2)+3", "1 + 2 + 3"), ("1+(2+3)", "1 + (2 + 3)"), ("1-(2-3)", "1 - (2 - 3)"),
                ("(1-2)-3", "1 - 2 - 3"), ("1+(2*3)", "1 + 2 * 3"), ("(1*2)*3", "1 * 2 * 3"),
                ("1*(2*3)", "1 * (2 * 3)"),
                ("(1+2)*3", "(1 + 2) * 3"), ("1*(2+3)", "1 * (2 + 3)"), ("-(1+2)", "-(1 + 2)"), ("-(1*2)", "-(1 * 2)"),
                ("(-1)*2", "-1 * 2"), ("1*(-2)", "1 * -2"), ("1-(-2)", "1 - -2"), ("(-1)-2", "-1 - 2"),
                ("-(cards)", "-cards"),
                ("((1-2)*(3-4))", "(1 - 2) * (3 - 4)"), ("-((1+2)*3)", "-((1 + 2) * 3)"), ("1-(2*(3))", "1 - 2 * 3"),
                ("(((1+2))*((3)))*4", "(1 + 2) * 3 * 4")):
            self.answers("cards 3 sort " + form, printed, "cards 3 sort " + text)

    def test_in_a_do_and_a_for(self):
        head = "cards 3 part a(b) { } "
        self.answers(head + "do a((1 + 2) * 3)", printed, head + "do a( ( 1+2 )*(3) )")
        self.answers("cards 3 part a(b, c) { } do a(1 + 2, 3 - 4 * 5)", printed,
                     "cards 3 part a(b, c) { } do a((1+2), (3-(4*5)))")
        self.answers("cards 3 for i down 1 + 2 to 3 - 4 * 5 { }", printed, "cards 3 for i down (1+2) to (3-(4*5)) { }")
        self.answers(head + "do a(-(1 + 2))", printed, head + "do a ( - ( (1)+2 ) )")
        self.answers("cards 3 for i up -(1 - 2) to 2 * (3 + 4) { }", printed, "cards 3for i up-(1-2)to 2*(3+4){}")

    def test_random_programs(self):
        source = random.Random(11)
        for _ in range(400):
            text, _ = some_program(source)
            form = printed(text)
            self.assertEqual(form, " ".join(form.split()))
            self.assertIsNone(re.search(r"\( | \)| ,|,\S|(?:part|do) [a-z]+ \(", form))
            self.assertEqual(printed(form), form)
            self.assertEqual(cards_of(form), cards_of(text))
            self.assertEqual(outcome(form), outcome(text))

    def test_brackets_stand_only_where_they_must(self):
        source = random.Random(12)
        for _ in range(600):
            marks = random_sum(source, 4)
            form = printed("cards 3 for i up 0 to 0 { sort " + " ".join(marks) + " }")
            sum_text = form[len("cards 3 for i up 0 to 0 { sort "):-len(" }")]
            meant = shape(" ".join(marks))
            self.assertEqual(shape(sum_text), meant)
            for start, stop in bracket_pairs(sum_text):
                without = sum_text[:start] + " " + sum_text[start + 1:stop] + " " + sum_text[stop + 1:]
                self.assertNotEqual(shape(without), meant, sum_text)

    def test_a_form_of_more_than_2000_signs(self):
        text = "cards 3 " + "sort 1+1" * 249
        self.assertEqual(len(text), 2000)
        form = printed(text)
        self.assertEqual(form, "cards 3" + " sort 1 + 1" * 249)
        self.refuses(InvalidText, printed, form, place=2000)


def outcome(text):
    """The word of a program, or its error and fields."""
    try:
        return word_of(text)
    except SortError as error:
        return type(error), vars(error)


def random_sum(source, depth):
    """The marks of an E."""
    kind = source.randrange(7) if depth else 0
    if kind == 0:
        return [source.choice(["1", "2", "i", "cards"])]
    if kind == 1:
        return ["-", "(", *random_sum(source, depth - 1), ")"]
    if kind == 2:
        return ["(", *random_sum(source, depth - 1), ")"]
    left, right = random_sum(source, depth - 2 if depth > 1 else 0), random_sum(source, depth - 2 if depth > 1 else 0)
    return ["(", *left, ")", source.choice("+-*"), "(", *right, ")"]


def shape(text):
    """How an E hangs together: Python reads E's as the document tells."""
    return ast.dump(ast.parse(text.strip(), mode="eval"))


def bracket_pairs(text):
    """The places of each bracket that is opened and of that which closes it."""
    begun, found = [], []
    for at, sign in enumerate(text):
        if sign == "(":
            begun.append(at)
        if sign == ")":
            found.append((begun.pop(), at))
    return found


if __name__ == "__main__":
    unittest.main()
