"""The interface: each function and class stands in the file that lists it, with the arguments that it lists."""

import importlib
import inspect
import unittest

FUNCTIONS = {
    "fracs": {
        "is_frac": ["thing"],
        "frac_of": ["top", "bottom"],
        "sum_of": ["one", "other"],
        "difference": ["one", "other"],
        "product": ["one", "other"],
        "quotient": ["one", "other"],
        "is_lesser": ["one", "other"],
    },
    "fractext": {
        "frac_text": ["one"],
        "frac_in": ["text"],
    },
    "juices": {
        "is_juice": ["thing"],
        "mixed": ["one", "other"],
        "share_of": ["juice", "share"],
        "rest_of": ["juice", "share"],
        "volume_of": ["juice"],
        "strength_of": ["juice"],
    },
    "boiling": {
        "water_at": ["sugar", "mark"],
        "boiled_down": ["juice", "fire", "mark", "hours"],
        "ready_in": ["juice", "fire", "mark"],
    },
    "rowtext": {
        "row_text": ["row"],
        "row_from": ["text"],
    },
    "rounds": {
        "are_kinds": ["thing"],
        "walked_once": ["kinds", "amounts"],
        "walked_on": ["kinds", "amounts", "many"],
        "loaves_of": ["kinds", "amounts"],
        "sold_of": ["kinds", "amounts"],
        "gap_between": ["one", "other"],
    },
    "steady": {
        "steady_state": ["kinds"],
        "shows_steady": ["kinds", "thing"],
        "rounds_till": ["kinds", "amounts", "most"],
    },
    "days": {
        "is_day": ["thing"],
        "shows_plan": ["day", "thing"],
    },
    "daymost": {
        "most_plan": ["day"],
        "first_hour": ["day", "many"],
        "most_struck": ["day"],
        "binding_places": ["day"],
    },
    "dayproof": {
        "shows_most": ["day", "many", "thing"],
    },
    "deeds": {
        "is_deed": ["thing"],
    },
    "desk": {
        "answers": ["text"],
    },
}

CLASSES = {
    "rows": {
        "Row": {"__init__": ["kettles", "moulds"]},
    },
    "kettles": {
        "Kettles": {
            "__init__": ["row"],
            "boil_on": ["hours"],
            "pour": ["kettle", "juice"],
            "dip": ["kettle", "share"],
            "ladle": ["one", "other", "share"],
            "skim": ["kettle", "share", "given", "other"],
            "stop": ["kettle"],
            "start": ["kettle"],
            "hour": [],
            "kettle_names": [],
            "juice_of": ["kettle"],
            "in_work": ["kettle"],
            "is_ready": ["kettle"],
            "ready_at": ["kettle"],
            "boiled_off": [],
            "like": [],
        },
    },
    "moulds": {
        "Moulds": {
            "__init__": ["row"],
            "fill": ["strike", "pours"],
            "drain": ["mould"],
            "knock": ["mould"],
            "draw_off": ["share"],
            "mould_names": [],
            "juice_in": ["mould"],
            "is_cured": ["mould"],
            "bears": ["mould"],
            "vat": [],
            "loaves": [],
            "like": [],
        },
    },
    "works": {
        "Works": {
            "__init__": ["row"],
            "boil_on": ["hours"],
            "do": ["deed"],
            "kettles_now": [],
            "moulds_now": [],
            "strikes": [],
            "sums": [],
            "like": [],
        },
    },
    "book": {
        "Book": {
            "__init__": ["row"],
            "tell": ["hour", "deed"],
            "untell": ["number"],
            "tellings": [],
            "works": ["hour"],
            "done_by": ["hour"],
            "waiting": ["hour"],
            "voids": [],
            "struck_at": ["number"],
            "like": [],
        },
    },
}

FUNCTION_ROWS = [(file, name, FUNCTIONS[file][name]) for file in FUNCTIONS for name in FUNCTIONS[file]]
CLASS_ROWS = [(file, name, CLASSES[file][name]) for file in CLASSES for name in CLASSES[file]]


def listed(file, name):
    """What stands under a name of a file of the package."""
    return getattr(importlib.import_module("kettlerow." + file), name)


class Interface(unittest.TestCase):
    def test_each_function_is_defined_in_its_file(self):
        for file, name, _ in FUNCTION_ROWS:
            with self.subTest(file=file, name=name):
                function = listed(file, name)
                self.assertTrue(inspect.isfunction(function))
                self.assertEqual((function.__module__, function.__name__), ("kettlerow." + file, name))

    def test_each_function_has_its_arguments(self):
        for file, name, arguments in FUNCTION_ROWS:
            with self.subTest(file=file, name=name):
                self.assertEqual(list(inspect.signature(listed(file, name)).parameters), arguments)

    def test_each_class_is_defined_in_its_file(self):
        for file, name, _ in CLASS_ROWS:
            with self.subTest(file=file, name=name):
                kind = listed(file, name)
                self.assertTrue(inspect.isclass(kind))
                self.assertEqual((kind.__module__, kind.__name__), ("kettlerow." + file, name))

    def test_each_method_stands_in_its_class_itself_with_its_arguments(self):
        for file, name, methods in CLASS_ROWS:
            for method in methods:
                with self.subTest(file=file, name=name, method=method):
                    function = vars(listed(file, name))[method]
                    self.assertTrue(inspect.isfunction(function))
                    self.assertEqual(list(inspect.signature(function).parameters), ["self"] + methods[method])


if __name__ == "__main__":
    unittest.main()
