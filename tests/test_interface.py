"""The names and arguments of the interface."""

import importlib
import inspect
import unittest

ARGUMENTS = {
    "lamps": {
        "tidy": ["p", "pairs"],
        "shows": ["pattern", "place"],
        "added": ["p", "one", "other"],
        "moved": ["pattern", "by"],
        "timed": ["p", "pattern", "n"],
    },
    "rounds": {
        "still": [],
        "gone": ["p", "deeds"],
        "joined": ["p", "one", "other"],
        "backward": ["p", "one"],
        "repeated": ["p", "one", "n"],
        "after": ["p", "one", "n", "place"],
    },
    "least": {
        "price": ["p", "setting"],
        "fewest": ["p", "one"],
        "walked": ["p", "row"],
        "shortest": ["p", "one"],
        "farther": ["p", "one"],
        "many_at": ["p", "n"],
    },
    "sums": {
        "trimmed": ["p", "row"],
        "inverse": ["p", "setting"],
        "plus": ["p", "one", "other"],
        "product": ["p", "one", "other"],
        "parted": ["p", "one", "other"],
        "common": ["p", "one", "other"],
    },
    "stairs": {
        "column": ["place", "stride"],
        "low": ["stride", "stairs", "pattern"],
        "rest_of": ["p", "stride", "stairs", "pattern"],
        "taken": ["p", "stride", "stairs", "pattern"],
        "built": ["p", "stride", "patterns"],
    },
    "works": {
        "worked": ["p", "members", "lines"],
        "spelled": ["lines"],
    },
}


class TestInterface(unittest.TestCase):
    def test_each_function_takes_its_arguments_by_name_and_by_place(self):
        for module, functions in ARGUMENTS.items():
            held = importlib.import_module(f"duskround.{module}")
            for name, arguments in functions.items():
                signature = inspect.signature(getattr(held, name))
                self.assertEqual(list(signature.parameters), arguments, name)
                for parameter in signature.parameters.values():
                    self.assertEqual(parameter.kind, parameter.POSITIONAL_OR_KEYWORD, name)


if __name__ == "__main__":
    unittest.main()
