"""The error classes: whose subclasses they are, and what they keep."""

import unittest

from stairlaid import errors

NO_VALUE = {"NothingDone": LookupError, "CanNot": ValueError, "TooMany": ValueError, "Unfit": ValueError}
ONE_VALUE = {"NoCell": (LookupError, "cell"), "NoName": (LookupError, "name"), "NoPoint": (LookupError, "point"),
             "BadLine": (ValueError, "number"), "Broken": (ValueError, "place")}


class Errors(unittest.TestCase):
    def test_no_value(self):
        for name, base in NO_VALUE.items():
            error = getattr(errors, name)
            self.assertEqual(error.__bases__, (base,), name)
            self.assertEqual(vars(error()), {}, name)

    def test_one_value(self):
        for name, (base, kept) in ONE_VALUE.items():
            error = getattr(errors, name)
            self.assertEqual(error.__bases__, (base,), name)
            for worth in ((3, -4), 7):
                self.assertEqual(vars(error(worth)), {kept: worth}, name)
                self.assertEqual(vars(error(**{kept: worth})), {kept: worth}, name)

    def test_what_is_kept_is_a_copy(self):
        for name, (_, kept) in ONE_VALUE.items():
            given = [[1], (2, [3])]
            error = getattr(errors, name)(given)
            given[0].append(5)
            given[1][1].append(5)
            given.append(5)
            self.assertEqual(getattr(error, kept), [[1], (2, [3])], name)

    def test_no_other_classes(self):
        found = {name for name, worth in vars(errors).items() if isinstance(worth, type)}
        self.assertEqual(found, {*NO_VALUE, *ONE_VALUE})


if __name__ == "__main__":
    unittest.main()
