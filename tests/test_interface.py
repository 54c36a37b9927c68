"""The interface: names, arguments, and the file in which each of them is defined."""

import importlib
import inspect
import unittest

from sturdysort.desks import Desk

FUNCTIONS = {
    "rows": ["turned(n)", "in_order(n)", "run(row, word, lot)", "out_pairs(row)", "can_come(row, other)",
             "no_less_sorted(row, other)", "way(row, other)", "stretch(row, other)"],
    "printing": ["check(text)", "printed(text)", "cards_of(text)"],
    "compiling": ["word_of(text)", "rounds(n, word)"],
    "words": ["end(n, word)", "are_alike(n, one, other)", "sorts_all(n, word)", "least_word(n, word)",
              "lacking(n, word)", "count_words(row)", "all_words(row)", "scattered(n, word, goal)"],
    "lots": ["is_harmless(n, word, goal, lot)", "count_lots(n, word, goal)", "number_of(n, word, goal, lot)",
             "greatest_lots(n, word, goal)", "lot_at(n, word, goal, number)", "fail_counts(n, word, goal)",
             "idle(n, word, goal)", "vital(n, word, goal)"],
    "strings": ["meets(n, word, lot)", "exchange(n, word, goal, lot, place)", "rises(n, word, goal, lot)",
                "falls(n, word, goal, lot)", "least_steps(n, word, goal, lot, other)",
                "way_of_lots(n, word, goal, lot, other)", "drawn(n, word, lot)"],
    "shelling": ["fixed(n, word, goal, lot)", "stretch_of(n, word, goal, lot)", "above(n, word, goal, lot)",
                 "h_numbers(n, word, goal)", "f_numbers(n, word, goal)", "is_sphere(n, word, goal)"],
    "chances": ["chance(n, word, goal, chances)", "worth(n, word, goal, chances, place)",
                "chance_numbers(n, word, goal)", "least_harms(n, word, goal)", "sturdy(n, word, goal)"],
    "bricks": ["bricks(n, word, lot)", "least_worth(n, word, prices)", "goes_down(n, word, prices, lot)",
               "lot_for(n, word, order)", "touches(n, word, lot)", "is_ringless(n, word, lot)",
               "orders_of(n, word, lot)"],
    "polygons": ["bubble(n, k)", "diagonal(n, k, place)", "place_of(n, k, pair)", "count_cuttings(n, k)",
                 "is_cutting(n, k, pairs)", "lot_of(n, k, pairs)", "pairs_of(n, k, lot)", "flip(n, k, pairs, pair)"],
    "coming": ["ends(row, word)", "chances_of_ends(row, word, chances)"],
    "papers": ["paper(n, word, goal, lot)", "judged(n, word, goal, lot, paper)"],
    "desks": ["desk_of(text)"],
    "changes": ["changes_of(n, word)", "changed(n, word, change)", "first_swapped(n, word)",
                "is_led(n, word, other, changes)", "is_swapped(n, word, other)", "led(n, word, other)",
                "count_swapped(n, word)"],
    "quick": ["quickest(n, word)"],
    "lighting": ["lamps(row, bound)", "run_lamps(lamps, word, lot)", "row_of(many)", "unsorted_bounds(n, word, lot)",
                 "jumps(lamps, word, lot)"],
    "faults": ["lots_by_end(n, word, most)", "fitting(n, word, most, told)", "parting_row(n, word, lot, other)"],
    "bychance": ["expected(row, draws)", "behind(row, draws, times)"],
    "wearing": ["cheapest(n, word, goal, costs)", "strengthened(n, word, goal, chances, costs, wanted)",
                "survival(n, word, goal, many)", "wear(n, word, goal)"],
    "mending": ["mending(n, word, goal, lot)", "spots(n, word, goal, lot)"],
}
METHODS_OF_DESK = ["put(self, place, deed)", "take(self, place)", "mark(self, place, state)", "undo(self)", "word(self)",
                   "states(self)", "goal(self)", "is_well(self)", "harmed_by(self)", "spare(self)", "chance(self, q)",
                   "text(self)"]


class Interface(unittest.TestCase):
    def test_functions(self):
        for name, functions in FUNCTIONS.items():
            module = importlib.import_module(f"sturdysort.{name}")
            for told in functions:
                function = getattr(module, told.split("(")[0])
                self.assertEqual(f"{function.__name__}{inspect.signature(function)}", told)
                self.assertEqual(function.__module__, f"sturdysort.{name}")

    def test_desk(self):
        self.assertEqual(Desk.__module__, "sturdysort.desks")
        self.assertEqual(str(inspect.signature(Desk)), "(n, word, goal)")
        for told in METHODS_OF_DESK:
            name = told.split("(")[0]
            self.assertEqual(f"{name}{inspect.signature(vars(Desk)[name])}", told)


if __name__ == "__main__":
    unittest.main()
