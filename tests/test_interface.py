"""The interface: each function stands in the file that lists it, with the arguments that it lists."""

import importlib
import inspect
import unittest

FUNCTIONS = {
    "fracs": {
        "is_frac": ["thing"],
        "frac_of": ["top", "bottom"],
        "sum_of": ["one", "other"],
        "difference": ["one", "other"],
        "product": ["one", "other"],
        "quotient": ["one", "other"],
        "is_lesser": ["one", "other"],
    },
    "fractext": {
        "frac_text": ["one"],
        "frac_in": ["text"],
    },
}

ROWS = [(file, name, FUNCTIONS[file][name]) for file in FUNCTIONS for name in FUNCTIONS[file]]


class Interface(unittest.TestCase):
    def test_each_function_is_defined_in_its_file(self):
        for file, name, _ in ROWS:
            with self.subTest(file=file, name=name):
                function = getattr(importlib.import_module("kettlerow." + file), name)
                self.assertTrue(inspect.isfunction(function))
                self.assertEqual((function.__module__, function.__name__), ("kettlerow." + file, name))

    def test_each_function_has_its_arguments(self):
        for file, name, arguments in ROWS:
            with self.subTest(file=file, name=name):
                function = getattr(importlib.import_module("kettlerow." + file), name)
                self.assertEqual(list(inspect.signature(function).parameters), arguments)


if __name__ == "__main__":
    unittest.main()
