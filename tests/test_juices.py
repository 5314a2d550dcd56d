"""Juices: what one is, mixing and sharing them, their volume and strength."""

import copy
import unittest
from fractions import Fraction

from helpers import FORTY, juice, pair, values
from kettlerow.juices import NOTHING, is_juice, mixed, rest_of, share_of, strength_of, volume_of

PARTS = [(0, 1), (1, 1), (2, 1), (1, 2), (1, 3), (5, 6), (7, 4), (99, 100), (10 ** 6, 1)]
LARGE = [(FORTY, 1), (1, FORTY), (FORTY, FORTY - 1), (FORTY - 1, FORTY)]
JUICES = [(sugar, water) for sugar in PARTS + LARGE for water in PARTS + LARGE]
SHARES = [(0, 1), (1, 1), (1, 2), (1, 3), (2, 3), (11, 12), (1, 12), (99, 100), (1, FORTY), (FORTY - 1, FORTY)]


class Checked(unittest.TestCase):
    def assert_frac(self, told, awaited):
        """Equal, and a tuple of two plain numbers in lowest terms."""
        self.assertEqual(told, pair(awaited))
        self.assertIs(type(told), tuple)
        self.assertEqual([type(part) for part in told], [int, int])

    def assert_juice(self, told, sugar, water):
        self.assertIs(type(told), tuple)
        self.assertEqual(len(told), 2)
        self.assert_frac(told[0], sugar)
        self.assert_frac(told[1], water)
        self.assertIs(is_juice(told), True)


class IsJuice(unittest.TestCase):
    def assert_all(self, things, awaited):
        for thing in things:
            with self.subTest(thing=thing):
                self.assertIs(is_juice(thing), awaited)

    def test_juices(self):
        self.assert_all(JUICES, True)

    def test_nothing(self):
        self.assertEqual(NOTHING, ((0, 1), (0, 1)))
        self.assert_all([((0, 1), (0, 1)), ((0, 1), (1, 1)), ((1, 1), (0, 1))], True)

    def test_below_nought(self):
        self.assert_all([
            ((-1, 1), (1, 1)), ((1, 1), (-1, 1)), ((-1, 2), (0, 1)), ((0, 1), (-1, FORTY)), ((-1, 3), (-1, 3)),
            ((-FORTY, 1), (FORTY, 1)),
        ], False)

    def test_parts_that_are_no_fractions(self):
        self.assert_all([
            ((2, 4), (1, 1)), ((1, 1), (2, 4)), ((0, 2), (1, 1)), ((1, 1), (0, 2)), ((1, 0), (1, 1)), ((1, 1), (1, 0)),
            ((1, -1), (1, 1)), ((1, 1), (1, -1)), ((1,), (1, 1)), ((1, 1), (1, 1, 1)), ((1, 1), ()), ((), ()),
            (1, 1), (0, 0), (1, (1, 1)), ((1, 1), 1), ("1", "2"), (None, None), ((1, 1), None), (None, (1, 1)),
            ((1, 1), "1/2"), ("1/2", (1, 1)),
        ], False)

    def test_true_and_false(self):
        self.assert_all([
            True, False, (True, True), (False, False), ((True, 1), (1, 1)), ((1, 1), (False, 1)), ((1, True), (1, 1)),
            ((1, 1), (1, True)), ((1, 2), True), (False, (1, 2)),
        ], False)

    def test_lists(self):
        self.assert_all([
            [], [1, 2], [(1, 2), (1, 2)], [[1, 2], [1, 2]], ([1, 2], [1, 2]), ((1, 2), [1, 2]), ([1, 2], (1, 2)),
        ], False)

    def test_other_numbers_of_parts(self):
        self.assert_all([
            (), ((1, 2),), ((1, 2), (1, 2), (1, 2)), ((0, 1),) * 3, ((0, 1),), (((0, 1), (0, 1)),),
        ], False)

    def test_other_things(self):
        self.assert_all([
            None, 0, 1, -1, FORTY, "", "juice", "ab", "0 0", ((((((1,),),),),),), [[[[[[1]]]]]],
            (((1, 2), (1, 2)), ((1, 2), (1, 2))), ((((1, 2), 1), 1), 1), (((0, 1), 1), (1, 1)),
        ], False)

    def test_nothing_is_changed_and_the_same_is_told_again(self):
        things = [[(1, 2), (1, 2)], ((1, 2), [1, 2]), ((1, 2), (1, 2)), [[], [1, (2, [3])]]]
        before = copy.deepcopy(things)
        self.assertEqual([is_juice(thing) for thing in things], [False, False, True, False])
        self.assertEqual([is_juice(thing) for thing in things], [False, False, True, False])
        self.assertEqual(things, before)


class Mixing(Checked):
    def test_mixed(self):
        self.assert_juice(mixed(juice(1, 2), juice(3, 4)), 4, 6)
        self.assert_juice(mixed(juice(Fraction(1, 2), Fraction(1, 3)), juice(Fraction(1, 2), Fraction(1, 6))), 1, Fraction(1, 2))
        self.assert_juice(mixed(juice(0, 5), juice(5, 0)), 5, 5)

    def test_with_nothing(self):
        for one in JUICES:
            self.assertEqual(mixed(one, NOTHING), one)
            self.assertEqual(mixed(NOTHING, one), one)

    def test_against_pythons_own(self):
        for one in JUICES:
            for other in JUICES[::5]:
                (sugar, water), (more, wetter) = values(one), values(other)
                self.assert_juice(mixed(one, other), sugar + more, water + wetter)


class Sharing(Checked):
    def test_share_of(self):
        self.assert_juice(share_of(juice(3, 9), (1, 3)), 1, 3)
        self.assert_juice(share_of(juice(1, 0), (2, 3)), Fraction(2, 3), 0)
        self.assert_juice(rest_of(juice(3, 9), (1, 3)), 2, 6)
        self.assert_juice(rest_of(juice(1, 0), (2, 3)), Fraction(1, 3), 0)

    def test_nought_and_one(self):
        for one in JUICES:
            self.assertEqual(share_of(one, (0, 1)), NOTHING)
            self.assertEqual(share_of(one, (1, 1)), one)
            self.assertEqual(rest_of(one, (0, 1)), one)
            self.assertEqual(rest_of(one, (1, 1)), NOTHING)

    def test_of_nothing(self):
        for share in SHARES:
            self.assertEqual(share_of(NOTHING, share), NOTHING)
            self.assertEqual(rest_of(NOTHING, share), NOTHING)

    def test_against_pythons_own(self):
        for one in JUICES:
            for share in SHARES:
                sugar, water = values(one)
                part = Fraction(*share)
                self.assert_juice(share_of(one, share), sugar * part, water * part)
                self.assert_juice(rest_of(one, share), sugar - sugar * part, water - water * part)
                self.assertEqual(mixed(share_of(one, share), rest_of(one, share)), one)

    def test_what_was_told_may_be_handed_in_again(self):
        one = juice(1, Fraction(1, 3))
        share = (FORTY - 1, FORTY)
        for _ in range(60):
            one = share_of(one, share)
        part = Fraction(*share) ** 60
        self.assert_juice(one, part, part / 3)
        self.assert_juice(rest_of(one, one[0]), part - part * part, (part - part * part) / 3)


class Volume(Checked):
    def test_volume_of(self):
        self.assert_frac(volume_of(juice(1, 3)), 4)
        self.assert_frac(volume_of(juice(Fraction(1, 2), Fraction(1, 3))), Fraction(5, 6))
        self.assert_frac(volume_of(NOTHING), 0)
        self.assert_frac(volume_of(juice(0, 7)), 7)
        self.assert_frac(volume_of(juice(7, 0)), 7)

    def test_against_pythons_own(self):
        for one in JUICES:
            self.assert_frac(volume_of(one), sum(values(one)))


class Strength(Checked):
    def test_strength_of(self):
        self.assert_frac(strength_of(juice(1, 3)), Fraction(1, 4))
        self.assert_frac(strength_of(juice(2, 2)), Fraction(1, 2))
        self.assert_frac(strength_of(juice(0, 3)), 0)
        self.assert_frac(strength_of(juice(3, 0)), 1)
        self.assert_frac(strength_of(juice(Fraction(1, 3), Fraction(1, 2))), Fraction(2, 5))

    def test_none_of_nothing_alone(self):
        self.assertIsNone(strength_of(((0, 1), (0, 1))))
        self.assert_frac(strength_of(((0, 1), (1, FORTY))), 0)
        self.assert_frac(strength_of(((1, FORTY), (0, 1))), 1)

    def test_against_pythons_own(self):
        for one in JUICES:
            sugar, water = values(one)
            if sugar + water:
                self.assert_frac(strength_of(one), sugar / (sugar + water))

    def test_shares_have_the_strength_of_the_whole(self):
        for one in JUICES[1:]:
            for share in SHARES[1:]:
                self.assertEqual(strength_of(share_of(one, share)), strength_of(one))


if __name__ == "__main__":
    unittest.main()
