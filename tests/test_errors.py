"""The refusals: what each is made with, and under which class it stands."""

import inspect
import unittest

from kettlerow import errors
from kettlerow.errors import (
    BadDeed, BadFrac, BadKettles, BadMoulds, BadRow, BoilError, Cured, Empty, InWork, NoHour, NoKettle, NoMould,
    NoRoom, NoShare, NoSteady, NoTelling, NotCured, NotReady, Same, Stopped, TooStrong,
)

TWENTY = [
    BadFrac, BadKettles, BadMoulds, BadRow, BadDeed, NoKettle, NoMould, NoShare, NoRoom, NoHour, NoTelling, NoSteady,
    Empty, Same, Stopped, InWork, NotReady, TooStrong, Cured, NotCured,
]

NAMES = [
    "BadFrac", "BadKettles", "BadMoulds", "BadRow", "BadDeed", "NoKettle", "NoMould", "NoShare", "NoRoom", "NoHour",
    "NoTelling", "NoSteady", "Empty", "Same", "Stopped", "InWork", "NotReady", "TooStrong", "Cured", "NotCured",
]

WHATS = [
    0, 1, -7, 10 ** 50, True, False, None, "", "pan", "a b\nc", (), (0, 1), (1, 2), ("pan", 3), [], [1, 2], [[1], (2,)],
    (("pan", 10, 1, (1, 2)),), ((((((1,),),),),),),
]


def raised(kind, what):
    """The error of a class that is raised with what and caught again."""
    try:
        raise kind(what)
    except BoilError as error:
        return error


class Whats(unittest.TestCase):
    def test_each_keeps_what_it_was_made_with(self):
        for kind in [BoilError] + TWENTY:
            for what in WHATS:
                with self.subTest(kind=kind.__name__, what=what):
                    made = kind(what)
                    self.assertEqual(made.what, what)
                    self.assertIs(type(made.what), type(what))

    def test_its_word_is_the_name_of_its_class(self):
        for kind in [BoilError] + TWENTY:
            self.assertEqual(raised(kind, "pan").word, kind.__name__)

    def test_what_is_told_again_the_same(self):
        for kind in [BoilError] + TWENTY:
            made = kind((1, 2))
            self.assertEqual([made.what, made.what, made.what], [(1, 2)] * 3)

    def test_what_is_there_when_it_is_caught(self):
        for kind in [BoilError] + TWENTY:
            error = raised(kind, ("pan", 3))
            self.assertIs(type(error), kind)
            self.assertEqual(error.what, ("pan", 3))

    def test_two_of_a_class_do_not_share_what(self):
        for kind in [BoilError] + TWENTY:
            one, other = kind("one"), kind("other")
            self.assertEqual((one.what, other.what), ("one", "other"))

    def test_what_handed_in_is_not_changed(self):
        for kind in [BoilError] + TWENTY:
            what = [1, ["two", (3,)]]
            raised(kind, what)
            self.assertEqual(what, [1, ["two", (3,)]])


class Classes(unittest.TestCase):
    def test_names(self):
        self.assertEqual([kind.__name__ for kind in TWENTY], NAMES)
        self.assertEqual(BoilError.__name__, "BoilError")

    def test_boil_error_stands_under_value_error(self):
        self.assertEqual(BoilError.__bases__, (ValueError,))

    def test_each_stands_straight_under_boil_error(self):
        for kind in TWENTY:
            with self.subTest(kind=kind.__name__):
                self.assertEqual(kind.__bases__, (BoilError,))
                self.assertTrue(issubclass(kind, ValueError))

    def test_none_stands_under_another(self):
        for kind in TWENTY:
            for other in TWENTY:
                with self.subTest(kind=kind.__name__, other=other.__name__):
                    self.assertEqual(issubclass(kind, other), kind is other)

    def test_each_is_caught_by_its_name_and_by_those_above_alone(self):
        for kind in TWENTY:
            error = raised(kind, "pan")
            caught = [other.__name__ for other in TWENTY if isinstance(error, other)]
            self.assertEqual(caught, [kind.__name__])
            self.assertIsInstance(error, ValueError)

    def test_each_tells_in_its_own_body_how_it_is_made(self):
        for kind in [BoilError] + TWENTY:
            with self.subTest(kind=kind.__name__):
                self.assertIn("__init__", vars(kind))
                self.assertEqual(list(inspect.signature(vars(kind)["__init__"]).parameters), ["self", "what"])

    def test_each_is_a_class_of_the_file(self):
        for name in NAMES + ["BoilError"]:
            self.assertEqual(getattr(errors, name).__module__, "kettlerow.errors")


if __name__ == "__main__":
    unittest.main()
