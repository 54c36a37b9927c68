"""The errors of the package and their fields."""

import unittest

from sturdysort import errors

WITHOUT_FIELDS = """BadCards BadRow BadWord BadLot NoWay NotText TooGreat BadGoal BadNumber NotGreatest BadPlace Harms
BadChances BadPrices SortsNotAll BadOrder BadTimes NoDiagonal BadPairs BadState NothingDone BadChange NotAlike BadLamps
BadBound BadTold BadDraws NeverSorted BadCosts BadShare""".split()
WITH_FIELDS = {
    "InvalidText": ["place"], "Twice": ["name"], "Unknown": ["name"], "WrongCount": ["name"], "BadDeed": ["value"],
    "NotApart": ["one", "other"], "TooLong": ["most"], "TooMuch": ["most"], "TooMany": ["most"], "InvalidDesk": ["at"],
}


class Errors(unittest.TestCase):
    def test_base(self):
        self.assertEqual(errors.SortError.__bases__, (ValueError,))

    def test_all_are_direct_subclasses_of_their_own_file(self):
        for name in [*WITHOUT_FIELDS, *WITH_FIELDS]:
            kind = getattr(errors, name)
            self.assertEqual(kind.__bases__, (errors.SortError,), name)
            self.assertEqual((kind.__module__, kind.__name__), ("sturdysort.errors", name))

    def test_no_other_errors(self):
        named = [name for name, kind in vars(errors).items() if isinstance(kind, type)]
        self.assertEqual(sorted(named), sorted(["SortError", *WITHOUT_FIELDS, *WITH_FIELDS]))

    def test_no_fields(self):
        for name in WITHOUT_FIELDS:
            self.assertEqual(vars(getattr(errors, name)()), {}, name)

    def test_fields(self):
        for name, fields in WITH_FIELDS.items():
            values = [10 * k + 7 for k in range(len(fields))]
            error = getattr(errors, name)(*values)
            self.assertEqual(vars(error), dict(zip(fields, values)), name)
            named = getattr(errors, name)(**dict(zip(fields, values)))
            self.assertEqual(vars(named), dict(zip(fields, values)), name)

    def test_bad_deed_takes_any_value(self):
        for value in (None, True, 10 ** 5000, "x", [1], {"a": ()}):
            error = errors.BadDeed(value)
            self.assertEqual(error.value, value)
            self.assertIsInstance(str(error), str)


if __name__ == "__main__":
    unittest.main()
