"""Every example that the document shows, word for word."""

import doctest
import unittest

EXAMPLES = {
    "rows": """
>>> from sturdysort.rows import can_come, no_less_sorted, out_pairs, run, stretch, turned, way
>>> [turned(4), run((3, 2, 1, 0), (0, 1, 2, 0), ()), run((3, 2, 1, 0), (0, 1, 2, 0), (1,)), out_pairs((2, 0, 1))]
[(3, 2, 1, 0), (1, 2, 0, 3), (2, 3, 0, 1), ((2, 0), (2, 1))]
>>> [can_come((2, 1, 0), (1, 2, 0)), can_come((1, 2, 0), (2, 0, 1)), way((2, 1, 0), (0, 1, 2))]
[True, False, (0, 1, 0)]
>>> [no_less_sorted((1, 2, 0), (2, 0, 1)), no_less_sorted((0, 2, 1), (2, 0, 1)), stretch((2, 0, 1), (0, 2, 1))]
[False, True, ((0, 2, 1), (2, 0, 1))]
""",
    "printing": """
>>> from sturdysort.printing import cards_of, printed
>>> printed("cards 4 part go(k){sort k}for i up 0 to (cards)-2{do go(i*(1+0))}")
'cards 4 part go(k) { sort k } for i up 0 to cards - 2 { do go(i * (1 + 0)) }'
""",
    "compiling": """
>>> from sturdysort.compiling import rounds, word_of
>>> word_of("cards 4 for t up 0 to 2 { for k up 0 to 2 - t { sort k } }")
(0, 1, 2, 0, 1, 0)
>>> word_of("cards 5 beside { sort 0 sort 1 } { sort 3 } back { sort 0 sort 1 } mirror { sort 0 }")
(0, 3, 1, 1, 0, 3)
>>> rounds(4, (0, 1, 2, 0, 1, 0))
[(0,), (1,), (2, 3), (4,), (5,)]
""",
    "words": """
>>> from sturdysort.words import all_words, are_alike, count_words, end, lacking, least_word, scattered, sorts_all
>>> [end(3, (0, 1)), are_alike(3, (0, 1, 0), (1, 0, 1)), sorts_all(3, (1, 0, 1)), sorts_all(3, (0, 1))]
[(1, 0, 2), True, True, False]
>>> [least_word(3, (1, 0, 1, 1)), lacking(3, (0, 1)), count_words((0, 1, 2, 3)), all_words((0, 1, 2))]
[(0, 1, 0), (0,), 16, ((0, 1, 0), (1, 0, 1))]
>>> [scattered(3, (1, 1, 0, 1), (0, 1, 2)), scattered(3, (0, 1, 1), (0, 1, 2)), scattered(3, (0, 1, 1), (1, 2, 0))]
[(0, 2, 3), None, (0,)]
""",
    "lots": """
>>> from sturdysort.lots import count_lots, fail_counts, greatest_lots, idle, is_harmless, lot_at, number_of, vital
>>> word, goal = (0, 1, 0, 1, 0), (0, 1, 2)
>>> greatest_lots(3, word, goal)
((3, 4), (2, 3), (1, 2), (0, 4), (0, 1))
>>> [count_lots(3, word, goal), lot_at(3, word, goal, 2), number_of(3, word, goal, (0, 4)), fail_counts(3, word, goal)]
[5, (1, 2), 3, (2, 2, 2, 2, 2)]
>>> [is_harmless(3, word, goal, (2,)), is_harmless(3, word, goal, (0, 2)), idle(3, (0, 0), (1, 2, 0)), vital(3, (0, 1, 0), goal)]
[True, False, (), (0, 1, 2)]
""",
    "strings": r"""
>>> from sturdysort.strings import drawn, exchange, falls, least_steps, meets, rises, way_of_lots
>>> word, goal = (0, 1, 0, 1, 0), (0, 1, 2)
>>> [meets(3, word, (0, 1)), exchange(3, word, goal, (0, 1), 1), rises(3, word, goal, (0, 1)), falls(3, word, goal, (3, 4))]
[((2, 1), (1, 0), (2, 1), (2, 0), (1, 0)), ((0, 4), 4), (0, 1), (3, 4)]
>>> [least_steps(3, word, goal, (3, 4), (0, 1)), way_of_lots(3, word, goal, (3, 4), (0, 1))]
[2, ((3, 4), (0, 4), (0, 1))]
>>> drawn(3, (0, 1, 0), (1,))
'2   1   1   2\n  x       x\n1   2   2   1\n      =\n0   0   0   0\n'
""",
    "shelling": """
>>> from sturdysort.shelling import above, f_numbers, fixed, h_numbers, is_sphere, stretch_of
>>> word, goal = (0, 1, 0, 1, 0), (0, 1, 2)
>>> [fixed(3, word, goal, (1, 2)), stretch_of(3, word, goal, (1,)), above(3, word, goal, (1,))]
[(1,), (1, 2), ((1, 2), (0, 1))]
>>> [h_numbers(3, word, goal), f_numbers(3, word, goal), is_sphere(3, word, goal), h_numbers(3, word, (1, 2, 0))]
[(1, 3, 1), (1, 5, 5), True, (1, 1, 1, 0, 0)]
""",
    "chances": """
>>> from sturdysort.chances import chance, chance_numbers, least_harms, sturdy, worth
>>> word, goal = (0, 1, 0, 1, 0), (0, 1, 2)
>>> [chance(3, word, goal, ((1, 2),) * 5), chance_numbers(3, word, goal), worth(3, word, goal, ((1, 2),) * 5, 0)]
[(11, 32), (1, 0, -5, 5, 0, -1), (5, 16)]
>>> [least_harms(3, word, goal), sturdy(3, word, goal)]
[((0, 2), (0, 3), (1, 3), (1, 4), (2, 4)), 1]
""",
    "bricks": """
>>> from sturdysort.bricks import bricks, goes_down, is_ringless, least_worth, lot_for, orders_of, touches
>>> word = (0, 1, 0, 1, 0)
>>> [bricks(3, word, (0, 1)), bricks(3, word, (3, 4)), touches(3, word, (0, 1)), is_ringless(3, word, (0, 1))]
[(0, 2, 2), (2, 2, 0), ((1, 0), (2, 1)), True]
>>> [least_worth(3, word, (1, 1, 2)), goes_down(3, word, (1, 1, 2), (0, 1)), lot_for(3, word, (0, 1, 2))]
[(4, ((3, 4), (2, 3))), ((0, 1), (1, 2), (2, 3)), (3, 4)]
>>> orders_of(3, word, (3, 4))
((0, 1, 2),)
""",
    "polygons": """
>>> from sturdysort.polygons import bubble, count_cuttings, diagonal, flip, is_cutting, lot_of, pairs_of, place_of
>>> [bubble(3, 1), diagonal(3, 1, 3), place_of(3, 1, (2, 4)), lot_of(3, 1, ((0, 2), (2, 4))), pairs_of(3, 1, (1, 2))]
[(0, 1, 0, 1, 0), (1, 4), 4, (0, 4), ((0, 3), (1, 3))]
>>> [is_cutting(3, 1, ((0, 2), (2, 4))), is_cutting(3, 1, ((0, 2), (1, 3))), count_cuttings(3, 1), count_cuttings(4, 2)]
[True, False, 5, 84]
>>> flip(3, 1, ((0, 2), (0, 3)), (0, 3))
(((0, 2), (2, 4)), (2, 4))
""",
    "coming": """
>>> from sturdysort.coming import chances_of_ends, ends
>>> [ends((2, 1, 0), (0, 1)), chances_of_ends((1, 0), (0, 0), ((1, 2), (1, 3)))]
[((1, 0, 2), (1, 2, 0), (2, 0, 1), (2, 1, 0)), {(1, 0): (1, 6), (0, 1): (5, 6)}]
""",
    "papers": """
>>> from sturdysort.papers import judged, paper
>>> word, goal = (0, 1, 0, 1, 0), (0, 1, 2)
>>> [paper(3, word, goal, (2,)), paper(3, word, goal, (0, 2)), judged(3, word, goal, (2,), ("fine", (1, 3, 4)))]
[('fine', (0, 1, 4)), ('harms', 2, 2), False]
""",
    "desks": r"""
>>> from sturdysort.desks import Desk, desk_of
>>> desk = Desk(3, (0, 1, 0, 1), (0, 1, 2))
>>> marked = [desk.mark(0, "sure"), desk.put(4, 0), desk.mark(2, "lost")]
>>> [desk.word(), desk.states(), desk.is_well(), desk.harmed_by(), desk.spare(), desk.chance((1, 2))]
[(0, 1, 0, 1, 0), ('sure', 'open', 'lost', 'open', 'open'), True, (4,), 1, (3, 8)]
>>> desk_of(desk.text()).text()
'cards 3\ngoal 0 1 2\nsure 0\nopen 1\nlost 0\nopen 1\nopen 0\n'
""",
    "changes": """
>>> from sturdysort.changes import changed, changes_of, count_swapped, first_swapped, is_led, is_swapped, led
>>> [changes_of(4, (0, 2, 1, 2, 2)), changed(4, (0, 2, 1, 2, 2), ("braid", 1)), is_led(3, (0, 1, 0), (1, 0, 1), (("braid", 0),))]
[(('braid', 1), ('drop', 3), ('swap', 0)), (0, 1, 2, 1, 2), True]
>>> [is_led(3, (0, 1, 0, 1), (0, 1, 0), led(3, (0, 1, 0, 1), (0, 1, 0))), is_swapped(4, (0, 2), (2, 0)), count_swapped(4, (2, 0, 1))]
[True, True, 2]
>>> first_swapped(4, (2, 0, 1))
(0, 2, 1)
""",
    "quick": """
>>> from sturdysort.quick import quickest
>>> quickest(4, (0, 1, 2, 0, 1, 0))
((0, 2), (1,), (0, 2), (1,))
""",
    "lighting": """
>>> from sturdysort.lighting import jumps, lamps, row_of, run_lamps, unsorted_bounds
>>> [lamps((2, 0, 1), 1), run_lamps((1, 1, 0), (0, 1, 0), ()), jumps((1, 1, 0), (0, 1, 0), ()), row_of(((1, 0, 1), (1, 0, 0)))]
[(1, 0, 1), (0, 1, 1), 2, (2, 0, 1)]
>>> unsorted_bounds(3, (0, 1), ())
(1,)
""",
    "faults": """
>>> from sturdysort.faults import fitting, lots_by_end, parting_row
>>> lots_by_end(3, (0, 1, 0), 1)
{(0, 1, 2): ((),), (0, 2, 1): ((0,),), (1, 2, 0): ((1,),), (1, 0, 2): ((2,),)}
>>> [fitting(3, (0, 1, 0), 1, (((1, 2, 0), (0, 1, 2)),)), parting_row(3, (0, 1, 0), (), (0,))]
[((), (0,)), (2, 0, 1)]
""",
    "bychance": """
>>> from sturdysort.bychance import behind, expected
>>> [expected((2, 1, 0), ((1, 2), (1, 2))), behind((1, 0), ((1, 1),), 1)]
[(5, 1), {(0, 1): (1, 1)}]
""",
    "wearing": """
>>> from sturdysort.wearing import cheapest, strengthened, survival, wear
>>> word, goal = (0, 1, 0, 1, 0), (0, 1, 2)
>>> [cheapest(3, word, goal, (5, 1, 1, 1, 1)), survival(3, word, goal, 2), wear(3, word, goal)]
[(3, (1, 2, 3)), (1, 2), (5, 2)]
>>> strengthened(3, word, goal, ((1, 2),) * 5, (1, 1, 1, 1, 1), (1, 2))
(1, (0,))
""",
    "mending": """
>>> from sturdysort.mending import mending, spots
>>> [mending(3, (0, 1, 0), (0, 1, 2), (0,)), spots(3, (0, 1, 0), (0, 1, 2), (0,)), spots(3, (0, 1, 0), (0, 1, 2), (0, 1))]
[(1,), ((0, 0), (1, 0), (3, 1)), ()]
""",
}


class Examples(unittest.TestCase):
    def test_examples(self):
        for name, text in EXAMPLES.items():
            with self.subTest(name):
                example = doctest.DocTestParser().get_doctest(text, {}, name, None, 0)
                told = []
                doctest.DocTestRunner(verbose=False).run(example, out=told.append)
                self.assertEqual("".join(told), "")


if __name__ == "__main__":
    unittest.main()
