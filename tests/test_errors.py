"""The refusals of the interface."""

import unittest

from duskround import errors
from duskround.book import Book
from duskround.crews import Crew
from duskround.least import shortest, walked
from duskround.notes import read, read_book
from duskround.rounds import gone
from duskround.sums import parted
from duskround.works import spelled, worked
from helper import SETTINGS

NAMES = (
    "NoDeed", "TooLong", "NoughtDivisor", "BadLine", "TooFar", "TooMany", "Endless", "Counted", "BadCount",
    "BadName", "NoRound", "NoCrew", "Taken", "InUse", "NoMore", "NoState", "BadText",
)


class TestErrors(unittest.TestCase):
    def test_street_error_stands_straight_under_value_error(self):
        self.assertEqual(errors.StreetError.__bases__, (ValueError,))

    def test_there_are_seventeen_and_no_more(self):
        found = [name for name, value in vars(errors).items() if isinstance(value, type)]
        self.assertEqual(len(NAMES), 17)
        self.assertEqual(sorted(found), sorted(NAMES + ("StreetError",)))

    def test_each_stands_straight_under_street_error(self):
        for name in NAMES:
            refusal = getattr(errors, name)
            self.assertEqual(refusal.__bases__, (errors.StreetError,), name)
            self.assertEqual(refusal.__name__, name)

    def test_each_is_taken_by_its_own_name_and_by_those_above_alone(self):
        for name in NAMES:
            made = getattr(errors, name)("words")
            self.assertIsInstance(made, errors.StreetError)
            self.assertIsInstance(made, ValueError)
            for other in NAMES:
                self.assertEqual(isinstance(made, getattr(errors, other)), name == other)

    def calls(self, p):
        """For each refusal calls at which it is due."""
        book = Book(p)
        book.tell("a", [])
        book.found("x")
        book.enlist("x", "a")
        rooms = [(1, ()), (0, ((0, 1), (1, 1)))]
        many = [(1, ()), (0, ((-24, 1), (24, 1)))]
        return {
            "NoDeed": [(gone, p, [("fly", 1)]), (walked, p, ["fly"]), (book.tell, "b", [("fly", 1)])],
            "TooLong": [(shortest, p, (501, ())), (spelled, [("member", 0), ("times", 0, 2001)])],
            "NoughtDivisor": [(parted, p, (1,), ())],
            "BadLine": [(worked, p, [], [("member", 0)])],
            "TooFar": [(Crew, p, [(9, ())]), (book.tell, "b", [("go", 201)]), (book.tell, "a", [("go", 9)])],
            "TooMany": [(Crew, p, [(0, ())] * 7), (Crew(p, many).all_rooms,), (Crew(p, many).table,)],
            "Endless": [(Crew(p, []).all_rooms,), (Crew(p, []).table,)],
            "Counted": [(Crew(p, rooms).far_room, 0)],
            "BadCount": [(Book, 4)],
            "BadName": [(book.tell, "A", []), (book.found, "")],
            "NoRound": [(book.round_of, "b"), (book.drop, "b"), (book.dismiss, "x", "b")],
            "NoCrew": [(book.members, "y"), (book.disband, "y"), (book.same, "x", "y")],
            "Taken": [(book.found, "x"), (book.enlist, "x", "a")],
            "InUse": [(book.drop, "a")],
            "NoMore": [(Book(p).undo,), (book.redo,)],
            "NoState": [(book.return_to, 0)],
            "BadText": [(read, p, ""), (read_book, "")],
        }

    def test_each_is_raised_where_it_is_due(self):
        for p in SETTINGS:
            calls = self.calls(p)
            self.assertEqual(sorted(calls), sorted(NAMES))
            for name, rows in calls.items():
                for call, *things in rows:
                    with self.assertRaises(errors.StreetError) as held:
                        call(*things)
                    self.assertIsInstance(held.exception, ValueError)
                    kinds = [other for other in NAMES if isinstance(held.exception, getattr(errors, other))]
                    self.assertEqual(kinds, [name])
                    self.assertIs(type(held.exception), getattr(errors, name))


if __name__ == "__main__":
    unittest.main()
