"""Boiling: the water at a mark, what hours over a fire leave, and when a mark is reached."""

import unittest
from fractions import Fraction

from helpers import FORTY, juice, pair, values
from kettlerow.boiling import boiled_down, ready_in, water_at
from kettlerow.juices import NOTHING, is_juice, share_of, strength_of

MARKS = [(1, 2), (1, 3), (2, 3), (1, 60), (59, 60), (3, 4), (7, 12), (1, FORTY), (FORTY - 1, FORTY)]
FIRES = [0, 1, 2, 7, 10 ** 4]
HOURS = [(0, 1), (1, 1), (2, 1), (1, 2), (1, 3), (10, 1), (1000, 1), (1, FORTY), (FORTY, 1)]
AMOUNTS = [0, 1, 2, Fraction(1, 3), Fraction(7, 2), 100, 10 ** 6, FORTY, Fraction(1, FORTY)]
JUICES = [juice(sugar, water) for sugar in AMOUNTS for water in AMOUNTS]


def doubled(one):
    """Twice as much juice."""
    sugar, water = values(one)
    return juice(2 * sugar, 2 * water)


class Checked(unittest.TestCase):
    def assert_frac(self, told, awaited):
        self.assertEqual(told, pair(awaited))
        self.assertIs(type(told), tuple)
        self.assertEqual([type(part) for part in told], [int, int])


class WaterAt(Checked):
    def test_ordinary(self):
        self.assert_frac(water_at((3, 1), (1, 2)), 3)
        self.assert_frac(water_at((3, 1), (1, 4)), 9)
        self.assert_frac(water_at((3, 1), (3, 4)), 1)
        self.assert_frac(water_at((1, 1), (2, 3)), Fraction(1, 2))
        self.assert_frac(water_at((5, 7), (59, 60)), Fraction(5, 7 * 59))
        self.assert_frac(water_at((5, 7), (1, 60)), Fraction(5 * 59, 7))

    def test_no_sugar(self):
        for mark in MARKS:
            self.assert_frac(water_at((0, 1), mark), 0)

    def test_has_just_the_mark(self):
        for amount in AMOUNTS[1:]:
            for mark in MARKS:
                sugar = pair(amount)
                self.assertEqual(strength_of((sugar, water_at(sugar, mark))), mark)


class BoiledDown(Checked):
    def assert_juice(self, told, sugar, water):
        self.assertIs(is_juice(told), True)
        self.assertEqual(told, juice(sugar, water))

    def test_ordinary(self):
        self.assert_juice(boiled_down(juice(10, 90), 5, (1, 2), (4, 1)), 10, 70)
        self.assert_juice(boiled_down(juice(10, 90), 5, (1, 2), (1, 3)), 10, Fraction(265, 3))

    def test_never_below_the_mark(self):
        self.assert_juice(boiled_down(juice(10, 90), 5, (1, 2), (16, 1)), 10, 10)
        self.assert_juice(boiled_down(juice(10, 90), 5, (1, 2), (17, 1)), 10, 10)
        self.assert_juice(boiled_down(juice(10, 90), 10 ** 4, (1, 2), (1000, 1)), 10, 10)
        self.assert_juice(boiled_down(juice(10, 90), 5, (1, 2), (159, 10)), 10, Fraction(21, 2))

    def test_just_at_the_mark(self):
        for hours in HOURS:
            for fire in FIRES:
                self.assert_juice(boiled_down(juice(10, 10), fire, (1, 2), hours), 10, 10)

    def test_stronger_stays_as_it_is(self):
        for hours in HOURS:
            for fire in FIRES:
                self.assert_juice(boiled_down(juice(10, 9), fire, (1, 2), hours), 10, 9)
                self.assert_juice(boiled_down(juice(10, 0), fire, (1, 2), hours), 10, 0)

    def test_water_alone(self):
        self.assert_juice(boiled_down(juice(0, 90), 5, (1, 2), (17, 1)), 0, 5)
        self.assertEqual(boiled_down(juice(0, 90), 5, (1, 2), (18, 1)), NOTHING)
        self.assertEqual(boiled_down(juice(0, 90), 5, (1, 2), (19, 1)), NOTHING)

    def test_nothing(self):
        for hours in HOURS:
            for fire in FIRES:
                self.assertEqual(boiled_down(NOTHING, fire, (1, 2), hours), NOTHING)

    def test_no_fire_and_no_hours(self):
        for one in JUICES:
            for mark in MARKS:
                self.assertEqual(boiled_down(one, 0, mark, (1000, 1)), one)
                self.assertEqual(boiled_down(one, 10 ** 4, mark, (0, 1)), one)

    def test_against_pythons_own(self):
        for one in JUICES:
            sugar, water = values(one)
            for mark in MARKS:
                least = sugar * (1 - Fraction(*mark)) / Fraction(*mark)
                for fire in FIRES:
                    for hours in HOURS:
                        left = min(water, max(least, water - fire * Fraction(*hours)))
                        self.assert_juice(boiled_down(one, fire, mark, hours), sugar, left)


class ReadyIn(Checked):
    def test_ordinary(self):
        self.assert_frac(ready_in(juice(10, 90), 5, (1, 2)), 16)
        self.assert_frac(ready_in(juice(10, 90), 7, (1, 2)), Fraction(80, 7))
        self.assert_frac(ready_in(juice(1, 2), 1, (2, 3)), Fraction(3, 2))

    def test_at_the_mark_or_above(self):
        for fire in FIRES:
            self.assert_frac(ready_in(juice(10, 10), fire, (1, 2)), 0)
            self.assert_frac(ready_in(juice(10, 9), fire, (1, 2)), 0)
            self.assert_frac(ready_in(juice(10, 0), fire, (1, 2)), 0)

    def test_never(self):
        self.assertIsNone(ready_in(juice(10, 11), 0, (1, 2)))
        self.assertIsNone(ready_in((pair(10), pair(10 + Fraction(1, FORTY))), 0, (1, 2)))
        for fire in FIRES:
            for water in [0, 1, 90, FORTY]:
                self.assertIsNone(ready_in(juice(0, water), fire, (1, 2)))

    def test_boiled_for_just_so_long_it_is_at_the_mark(self):
        for one in JUICES:
            for mark in MARKS:
                for fire in FIRES[1:]:
                    hours = ready_in(one, fire, mark)
                    if one[0] == (0, 1):
                        self.assertIsNone(hours)
                    elif hours == (0, 1):
                        self.assertGreaterEqual(Fraction(*strength_of(one)), Fraction(*mark))
                    else:
                        self.assertEqual(strength_of(boiled_down(one, fire, mark, hours)), mark)
                        sooner = pair(Fraction(*hours) * Fraction(FORTY - 1, FORTY))
                        weaker = strength_of(boiled_down(one, fire, mark, sooner))
                        self.assertLess(Fraction(*weaker), Fraction(*mark))


class HoursAndFires(Checked):
    def test_hours_in_parts(self):
        for one in JUICES:
            for mark in MARKS[:6]:
                for fire in FIRES:
                    for first in HOURS[:6]:
                        for then in HOURS[:6]:
                            whole = boiled_down(one, fire, mark, pair(Fraction(*first) + Fraction(*then)))
                            parts = boiled_down(boiled_down(one, fire, mark, first), fire, mark, then)
                            self.assertEqual(parts, whole)

    def test_an_hour_over_a_fire_is_two_over_half_of_it(self):
        for one in JUICES:
            for mark in MARKS:
                for fire in FIRES:
                    self.assertEqual(
                        boiled_down(one, 2 * fire, mark, (3, 1)), boiled_down(one, fire, mark, (6, 1)))

    def test_stronger_fires_leave_no_more(self):
        for one in JUICES:
            for mark in MARKS:
                for hours in HOURS:
                    waters = [values(boiled_down(one, fire, mark, hours))[1] for fire in FIRES]
                    self.assertEqual(waters, sorted(waters, reverse=True))

    def test_stronger_fires_are_ready_no_later(self):
        for one in JUICES:
            for mark in MARKS:
                whens = [ready_in(one, fire, mark) for fire in FIRES[1:]]
                if None in whens:
                    self.assertEqual(whens, [None] * len(whens))
                else:
                    reckoned = [Fraction(*when) for when in whens]
                    self.assertEqual(reckoned, sorted(reckoned, reverse=True))

    def test_twice_as_much_over_twice_the_fire(self):
        for one in JUICES:
            for mark in MARKS:
                for fire in FIRES:
                    self.assertEqual(ready_in(doubled(one), 2 * fire, mark), ready_in(one, fire, mark))
                    for hours in HOURS:
                        once = boiled_down(one, fire, mark, hours)
                        self.assertEqual(boiled_down(doubled(one), 2 * fire, mark, hours), doubled(once))

    def test_twice_as_much_takes_twice_as_long(self):
        for one in JUICES:
            for mark in MARKS:
                for fire in FIRES:
                    when = ready_in(one, fire, mark)
                    twice = None if when is None else pair(2 * Fraction(*when))
                    self.assertEqual(ready_in(doubled(one), fire, mark), twice)

    def test_what_was_told_may_be_handed_in_again(self):
        one = juice(FORTY, FORTY)
        for _ in range(40):
            one = share_of(one, (FORTY - 1, FORTY))
        one = (one[0], pair(3 * Fraction(*one[1])))
        hours = ready_in(one, 7, (1, 2))
        self.assertGreater(hours[1], 10 ** 1000)
        self.assertEqual(boiled_down(one, 7, (1, 2), hours), (one[0], one[0]))


if __name__ == "__main__":
    unittest.main()
