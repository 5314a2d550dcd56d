"""Kettles over many deeds: nothing is lost, likes tell the same, two rows by turns, the greatest."""

import unittest
from fractions import Fraction

from deedsmade import kettle_call
from helpers import Turns, juice, kettles_told, pair, refusal, told_or_refused, values
from kettlerow.juices import is_juice
from kettlerow.kettles import Kettles
from kettlerow.rows import Row
from model import Model
from rowsmade import GREATEST_KETTLES, KETTLES, MOULDS

NAMES = [name for name, _, _, _ in KETTLES]
SMALL = [("a", 60, 3, (1, 3)), ("b", 50, 0, (1, 2)), ("c", 40, 7, (3, 5)), ("d", 5, 1, (59, 60))]
SMALL_NAMES = ["a", "b", "c", "d"]


def called(kettles, call):
    """What a call of a method tells, or how it is refused."""
    return told_or_refused(getattr(kettles, call[0]), *call[1:])


def calls_by(seed, many, names=NAMES, most=400):
    turns = Turns(seed)
    return [kettle_call(turns, names, most) for _ in range(many)]


class AgainstTheModel(unittest.TestCase):
    def assert_as_reckoned(self, kettles, calls):
        """Each call is told or refused as it is reckoned otherwise; the words that came are told."""
        program, model = Kettles(Row(kettles, MOULDS)), Model(kettles, MOULDS)
        words = []
        for call in calls:
            awaited = model.attempt(*call)
            self.assertEqual(called(program, call), awaited, call)
            self.assertEqual(kettles_told(program), model.kettles_told(), call)
            words.append(awaited[0])
        return words

    def test_usual_kettles(self):
        words = []
        for seed in range(12):
            words += self.assert_as_reckoned(KETTLES, calls_by(seed, 120))
        self.assertEqual(
            sorted(set(words)), ["Empty", "InWork", "NoKettle", "NoRoom", "NoShare", "Same", "Stopped", "told"])

    def test_small_kettles(self):
        for seed in range(12):
            self.assert_as_reckoned(SMALL, calls_by(100 + seed, 120, SMALL_NAMES, 40))

    def test_one_kettle(self):
        for seed in range(4):
            self.assert_as_reckoned([("pan", 100, 5, (1, 2))], calls_by(200 + seed, 100, ["pan"], 60))


class NothingIsLost(unittest.TestCase):
    def test_sugar_and_water_are_all_there(self):
        for seed in range(10):
            kettles = Kettles(Row(KETTLES, []))
            sugar, water = Fraction(0), Fraction(0)
            for call in calls_by(300 + seed, 150):
                told = called(kettles, call)
                if told[0] != "told":
                    continue
                if call[0] == "pour":
                    sugar, water = sugar + values(call[2])[0], water + values(call[2])[1]
                if call[0] == "dip":
                    sugar, water = sugar - values(told[1])[0], water - values(told[1])[1]
                if call[0] == "skim":
                    sugar, water = sugar - values(told[1][1])[0], water - values(told[1][1])[1]
                held = [values(kettles.juice_of(name)) for name in NAMES]
                self.assertEqual(sum(part[0] for part in held), sugar)
                self.assertEqual(sum(part[1] for part in held) + Fraction(*kettles.boiled_off()), water)
                for name in NAMES:
                    self.assertIs(is_juice(kettles.juice_of(name)), True)

    def test_rooms_are_kept(self):
        kettles = Kettles(Row(SMALL, []))
        for call in calls_by(400, 400, SMALL_NAMES, 40):
            called(kettles, call)
            for name, room, _, _ in SMALL:
                self.assertLessEqual(sum(values(kettles.juice_of(name))), room)


class Likes(unittest.TestCase):
    def test_a_like_tells_the_same(self):
        kettles = Kettles(Row(KETTLES, []))
        for call in calls_by(500, 200):
            called(kettles, call)
            like = kettles.like()
            self.assertIs(type(like), Kettles)
            self.assertIsNot(like, kettles)
            self.assertEqual(kettles_told(like), kettles_told(kettles))

    def test_what_is_done_to_one_does_nothing_to_the_other(self):
        for seed in range(8):
            kettles = Kettles(Row(KETTLES, []))
            for call in calls_by(600 + seed, 40):
                called(kettles, call)
            before = kettles_told(kettles)
            like = kettles.like()
            for call in calls_by(700 + seed, 40):
                called(like, call)
            self.assertEqual(kettles_told(kettles), before)
            after = kettles_told(like)
            for call in calls_by(800 + seed, 40):
                called(kettles, call)
            self.assertEqual(kettles_told(like), after)

    def test_the_same_done_to_both_is_told_alike(self):
        kettles = Kettles(Row(KETTLES, []))
        for call in calls_by(900, 60):
            called(kettles, call)
        like = kettles.like().like()
        for call in calls_by(901, 60):
            self.assertEqual(called(like, call), called(kettles, call))
            self.assertEqual(kettles_told(like), kettles_told(kettles))

    def test_asking_changes_nothing(self):
        asked, unasked = Kettles(Row(KETTLES, [])), Kettles(Row(KETTLES, []))
        for call in calls_by(902, 100):
            self.assertEqual(kettles_told(asked), kettles_told(asked))
            asked.like().boil_on(3)
            refusal(asked.juice_of, "pot")
            self.assertEqual(called(asked, call), called(unasked, call))
        self.assertEqual(kettles_told(asked), kettles_told(unasked))


class ByTurns(unittest.TestCase):
    def test_kettles_of_two_rows(self):
        one, other = Kettles(Row(KETTLES, [])), Kettles(Row(SMALL, []))
        first, second = Model(KETTLES, []), Model(SMALL, [])
        for call, then in zip(calls_by(1000, 150), calls_by(1001, 150, SMALL_NAMES, 40)):
            self.assertEqual(called(one, call), first.attempt(*call))
            self.assertEqual(called(other, then), second.attempt(*then))
            self.assertEqual(kettles_told(one), first.kettles_told())
            self.assertEqual(kettles_told(other), second.kettles_told())

    def test_two_kettles_of_one_row(self):
        row = Row(KETTLES, [])
        one, other, idle = Kettles(row), Kettles(row), Kettles(row)
        first, second = Model(KETTLES, []), Model(KETTLES, [])
        for call, then in zip(calls_by(1002, 100), calls_by(1003, 100)):
            self.assertEqual(called(one, call), first.attempt(*call))
            self.assertEqual(called(other, then), second.attempt(*then))
        self.assertEqual(kettles_told(one), first.kettles_told())
        self.assertEqual(kettles_told(other), second.kettles_told())
        self.assertEqual(kettles_told(idle), Model(KETTLES, []).kettles_told())
        self.assertEqual((row.kettles, row.moulds), (tuple(KETTLES), ()))


class TimesANumber(unittest.TestCase):
    def test_all_amounts_times_a_number(self):
        for many in [2, 7, 1000]:
            large = [(name, room * many, fire * many, mark) for name, room, fire, mark in SMALL]
            one, other = Kettles(Row(SMALL, [])), Kettles(Row(large, []))
            for call in calls_by(1100 + many, 150, SMALL_NAMES, 40):
                then = call
                if call[0] == "pour":
                    then = ("pour", call[1], tuple(pair(many * part) for part in values(call[2])))
                self.assertEqual(called(one, call)[0], called(other, then)[0])
                self.assertEqual(one.boiled_off(), pair(Fraction(*other.boiled_off()) / many))
                for name in SMALL_NAMES:
                    sugar, water = values(one.juice_of(name))
                    self.assertEqual(other.juice_of(name), juice(sugar * many, water * many))
                    self.assertEqual(other.is_ready(name), one.is_ready(name))
                    self.assertEqual(other.ready_at(name), one.ready_at(name))


class TheGreatest(unittest.TestCase):
    def test_full_kettles_over_the_greatest_fires(self):
        names = [name for name, _, _, _ in GREATEST_KETTLES]
        kettles = Kettles(Row(GREATEST_KETTLES, []))
        self.assertEqual(kettles.kettle_names(), names)
        for name in names:
            kettles.pour(name, juice(1, 10 ** 6 - 1))
            self.assertEqual(refusal(kettles.pour, name, juice(0, Fraction(1, 10 ** 39))), ("NoRoom", name))
            self.assertEqual(kettles.ready_at(name), pair(Fraction(10 ** 6 - 1 - Fraction(1, 59), 10 ** 4)))
        kettles.boil_on(99)
        for name in names:
            self.assertEqual(kettles.juice_of(name), juice(1, 9999))
        kettles.boil_on(1)
        for name in names:
            self.assertEqual(kettles.juice_of(name), juice(1, Fraction(1, 59)))
            self.assertIs(kettles.is_ready(name), True)
        self.assertEqual(kettles.boiled_off(), pair(8 * (10 ** 6 - 1 - Fraction(1, 59))))

    def test_five_thousand_deeds(self):
        kettles = [(name, 10 ** 6, fire, mark) for (name, _, _, _), fire, mark in zip(
            GREATEST_KETTLES, [1, 10 ** 4, 0, 9, 40, 7, 13, 400], [(1, 60), (59, 60), (1, 2), (7, 53), (3, 4), (1, 3), (2, 5), (8, 9)])]
        names = [name for name, _, _, _ in kettles]
        program = Kettles(Row(kettles, []))
        sugar = Fraction(0)
        for call in calls_by(1200, 5000, names, 10 ** 6):
            told = called(program, call)
            if told[0] == "told" and call[0] == "pour":
                sugar += values(call[2])[0]
            if told[0] == "told" and call[0] in ("dip", "skim"):
                sugar -= values(told[1] if call[0] == "dip" else told[1][1])[0]
        self.assertEqual(sum(values(program.juice_of(name))[0] for name in names), sugar)
        self.assertEqual(kettles_told(program.like()), kettles_told(program))

    def test_a_share_taken_again_and_again(self):
        kettles = Kettles(Row([("pan", 10 ** 6, 0, (1, 2)), ("pot", 10 ** 6, 0, (1, 2))], []))
        kettles.pour("pan", juice(10 ** 6, 0))
        for _ in range(600):
            kettles.dip("pan", (1, 11))
        self.assertEqual(kettles.juice_of("pan"), juice(10 ** 6 * Fraction(10, 11) ** 600, 0))


if __name__ == "__main__":
    unittest.main()
