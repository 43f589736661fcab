"""The refusals of the interface."""

import unittest

from duskround import errors

NAMES = (
    "NoDeed", "TooLong", "NoughtDivisor", "BadLine", "TooFar", "TooMany", "Endless", "Counted", "BadCount",
    "BadName", "NoRound", "NoCrew", "Taken", "InUse", "NoMore", "NoState", "BadText",
)


class TestErrors(unittest.TestCase):
    def test_street_error_stands_straight_under_value_error(self):
        self.assertEqual(errors.StreetError.__bases__, (ValueError,))

    def test_there_are_seventeen_and_no_more(self):
        found = [name for name, value in vars(errors).items() if isinstance(value, type)]
        self.assertEqual(len(NAMES), 17)
        self.assertEqual(sorted(found), sorted(NAMES + ("StreetError",)))

    def test_each_stands_straight_under_street_error(self):
        for name in NAMES:
            refusal = getattr(errors, name)
            self.assertEqual(refusal.__bases__, (errors.StreetError,), name)
            self.assertEqual(refusal.__name__, name)

    def test_each_is_taken_by_its_own_name_and_by_those_above_alone(self):
        for name in NAMES:
            made = getattr(errors, name)("words")
            self.assertIsInstance(made, errors.StreetError)
            self.assertIsInstance(made, ValueError)
            for other in NAMES:
                self.assertEqual(isinstance(made, getattr(errors, other)), name == other)


if __name__ == "__main__":
    unittest.main()
