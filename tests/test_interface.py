"""The names and arguments of the interface."""

import importlib
import inspect
import operator
import unittest

ARGUMENTS = {
    "lamps": {
        "tidy": ["p", "pairs"],
        "shows": ["pattern", "place"],
        "added": ["p", "one", "other"],
        "moved": ["pattern", "by"],
        "timed": ["p", "pattern", "n"],
    },
    "rounds": {
        "still": [],
        "gone": ["p", "deeds"],
        "joined": ["p", "one", "other"],
        "backward": ["p", "one"],
        "repeated": ["p", "one", "n"],
        "after": ["p", "one", "n", "place"],
    },
    "least": {
        "price": ["p", "setting"],
        "fewest": ["p", "one"],
        "walked": ["p", "row"],
        "shortest": ["p", "one"],
        "farther": ["p", "one"],
        "many_at": ["p", "n"],
    },
    "sums": {
        "trimmed": ["p", "row"],
        "inverse": ["p", "setting"],
        "plus": ["p", "one", "other"],
        "product": ["p", "one", "other"],
        "parted": ["p", "one", "other"],
        "common": ["p", "one", "other"],
    },
    "stairs": {
        "column": ["place", "stride"],
        "low": ["stride", "stairs", "pattern"],
        "rest_of": ["p", "stride", "stairs", "pattern"],
        "taken": ["p", "stride", "stairs", "pattern"],
        "built": ["p", "stride", "patterns"],
    },
    "works": {
        "worked": ["p", "members", "lines"],
        "spelled": ["lines"],
    },
    "crews": {
        "Crew": ["p", "members"],
        "Crew.form": ["self"],
        "Crew.papers": ["self"],
        "Crew.room": ["self", "one"],
        "Crew.made": ["self", "one"],
        "Crew.rooms": ["self"],
        "Crew.all_rooms": ["self"],
        "Crew.table": ["self"],
        "Crew.far_room": ["self", "k"],
        "within": ["one", "other"],
        "apart": ["one", "other"],
    },
    "likeness": {
        "folds": ["p", "one"],
        "alike": ["p", "one", "other"],
        "root": ["p", "one", "n"],
        "exponents": ["p", "one"],
        "quarrel": ["p", "one"],
    },
    "book": {
        "Book": ["p"],
        "Book.settings": ["self"],
        "Book.tell": ["self", "name", "deeds"],
        "Book.join_as": ["self", "name", "one", "other"],
        "Book.back_as": ["self", "name", "one"],
        "Book.times_as": ["self", "name", "one", "n"],
        "Book.drop": ["self", "name"],
        "Book.found": ["self", "crew"],
        "Book.disband": ["self", "crew"],
        "Book.enlist": ["self", "crew", "name"],
        "Book.dismiss": ["self", "crew", "name"],
        "Book.undo": ["self"],
        "Book.redo": ["self"],
        "Book.hold": ["self"],
        "Book.return_to": ["self", "k"],
        "Book.names": ["self"],
        "Book.crews": ["self"],
        "Book.round_of": ["self", "name"],
        "Book.members": ["self", "crew"],
        "Book.form": ["self", "crew"],
        "Book.rooms": ["self", "crew"],
        "Book.room": ["self", "crew", "name"],
        "Book.made": ["self", "crew", "name"],
        "Book.same": ["self", "crew", "other"],
    },
    "notes": {
        "shown": ["one"],
        "read": ["p", "text"],
        "book_text": ["book"],
        "read_book": ["text"],
    },
}


class TestInterface(unittest.TestCase):
    def test_each_function_takes_its_arguments_by_name_and_by_place(self):
        for module, functions in ARGUMENTS.items():
            held = importlib.import_module(f"duskround.{module}")
            for name, arguments in functions.items():
                signature = inspect.signature(operator.attrgetter(name)(held))
                self.assertEqual(list(signature.parameters), arguments, name)
                for parameter in signature.parameters.values():
                    self.assertEqual(parameter.kind, parameter.POSITIONAL_OR_KEYWORD, name)


if __name__ == "__main__":
    unittest.main()
