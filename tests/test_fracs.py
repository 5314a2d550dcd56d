"""Fractions: what one is, and reckoning with them."""

import copy
import unittest
from fractions import Fraction

from kettlerow.fracs import difference, frac_of, is_frac, is_lesser, product, quotient, sum_of

FORTY = 10 ** 40 - 1
LEAST_FORTY = 10 ** 39

FRACS = [
    (0, 1), (1, 1), (-1, 1), (2, 1), (-2, 1), (12, 1), (1, 2), (-1, 2), (1, 3), (-1, 3), (2, 3), (-2, 3), (3, 2),
    (-3, 2), (5, 6), (-5, 6), (7, 4), (1, 12), (-1, 12), (99, 100), (100, 99), (-100, 99),
]
LARGE = [
    (FORTY, 1), (-FORTY, 1), (1, FORTY), (-1, FORTY), (LEAST_FORTY, FORTY), (-LEAST_FORTY, FORTY),
    (FORTY, LEAST_FORTY), (FORTY, FORTY - 1), (FORTY - 1, FORTY), (-FORTY, FORTY - 1),
]
PAIRS = [(one, other) for one in FRACS + LARGE for other in FRACS + LARGE]


def as_pair(value):
    """The tuple that a Fraction of Python's is here."""
    return (value.numerator, value.denominator)


def share_a_divisor(top, bottom):
    """Whether a number from 2 on goes into both, found by trying each."""
    return any(top % by == 0 and bottom % by == 0 for by in range(2, abs(bottom) + 1))


class Checked(unittest.TestCase):
    def assert_told(self, told, awaited):
        """Equal, and a tuple of two plain numbers, in lowest terms with a bottom above 0."""
        self.assertEqual(told, awaited)
        self.assertIs(type(told), tuple)
        self.assertEqual([type(part) for part in told], [int, int])
        self.assertEqual(told, as_pair(Fraction(told[0], told[1])))


class IsFrac(unittest.TestCase):
    def assert_all(self, things, awaited):
        for thing in things:
            with self.subTest(thing=thing):
                self.assertIs(is_frac(thing), awaited)

    def test_fractions(self):
        self.assert_all(FRACS, True)

    def test_forty_figures_and_more(self):
        self.assert_all(LARGE, True)
        self.assert_all([(10 ** 5000, 10 ** 5000 + 1), (-(10 ** 5000) - 1, 10 ** 5000)], True)
        self.assert_all([
            (FORTY, FORTY), (-FORTY, FORTY), (2 * LEAST_FORTY, 4 * LEAST_FORTY), (FORTY, -1), (FORTY, 0),
            (0, FORTY), (FORTY - 1, 2), (10 ** 5000, 10 ** 5000 + 2), (3 * (10 ** 39 + 1), 9), (LEAST_FORTY, 10 ** 38),
        ], False)

    def test_nought(self):
        self.assert_all([(0, 1)], True)
        self.assert_all([(0, 2), (0, 3), (0, 0), (0, -1), (0, -2), 0, (0,), [0, 1]], False)

    def test_bottom_of_nought_or_below(self):
        self.assert_all([(1, 0), (-1, 0), (5, 0), (1, -1), (1, -2), (-1, -2), (3, -2), (-3, -2)], False)

    def test_common_divisors(self):
        self.assert_all([(2, 2), (2, 4), (-2, 4), (4, 2), (6, 3), (6, 9), (-6, 9), (35, 49), (100, 10), (77, 91)], False)

    def test_small_ones_by_trying_each(self):
        for top in range(-15, 16):
            for bottom in range(-15, 16):
                with self.subTest(top=top, bottom=bottom):
                    awaited = bottom > 0 and not share_a_divisor(top, bottom)
                    self.assertIs(is_frac((top, bottom)), awaited)

    def test_true_and_false_are_no_numbers(self):
        self.assert_all([
            (True, 1), (False, 1), (1, True), (0, True), (True, True), (False, True), (True, 2), (3, True), (True, False),
            (5, False), True, False,
        ], False)

    def test_lists_are_no_tuples(self):
        self.assert_all([[1, 2], [0, 1], [-3, 4], [], [1], [(1, 2)], [[1, 2]]], False)

    def test_other_numbers_of_parts(self):
        self.assert_all([(), (1,), (0,), (1, 2, 3), (1, 2, 1), (1, 1, 1, 1), (0, 1, 0)], False)

    def test_no_tuples(self):
        self.assert_all([None, "", "1/2", "12", "(1, 2)", "ab", "a\nb", 0, 1, -1, 7, FORTY], False)

    def test_parts_of_other_kinds(self):
        self.assert_all([
            (None, 1), (1, None), (None, None), ("1", "2"), ("1", 2), (1, "2"), ("", ""), ("a", 1), (1, ""),
        ], False)

    def test_nested_things(self):
        self.assert_all([
            ((1, 2), (1, 3)), ((1, 2),), ((1, 2), 3), (3, (1, 2)), ((1,), 2), (1, (2,)), ([1], 2), (1, [2]), ([1], [2]),
            ([], []), ((), ()), ((((((1,),),),),),), [[[[[[1]]]]]], ((((((1, 2), 1), 1), 1), 1), 1),
            (1, (1, (1, (1, (1, (1, 2)))))), ("a", [None, (True, [0, ("b", False)])]),
        ], False)

    def test_nothing_is_changed_and_the_same_is_told_again(self):
        things = [[1, 2], [0, 1], (1, 2), (0, 2), ([1, 2], [3]), [1, [2, (3, [4, None])]], "1/2", [[], []], (1, [2])]
        before = copy.deepcopy(things)
        first = [is_frac(thing) for thing in things]
        self.assertEqual(things, before)
        self.assertEqual([is_frac(thing) for thing in reversed(things)], first[::-1])
        self.assertEqual(first, [False, False, True] + [False] * 6)


class FracOf(Checked):
    def test_signs(self):
        self.assert_told(frac_of(1, 2), (1, 2))
        self.assert_told(frac_of(-1, 2), (-1, 2))
        self.assert_told(frac_of(1, -2), (-1, 2))
        self.assert_told(frac_of(-1, -2), (1, 2))
        self.assert_told(frac_of(7, -1), (-7, 1))
        self.assert_told(frac_of(-7, -1), (7, 1))

    def test_nought(self):
        for bottom in [1, -1, 2, -2, 17, -17, FORTY, -FORTY]:
            self.assert_told(frac_of(0, bottom), (0, 1))

    def test_lowest_terms(self):
        self.assert_told(frac_of(6, 4), (3, 2))
        self.assert_told(frac_of(-6, 4), (-3, 2))
        self.assert_told(frac_of(6, -4), (-3, 2))
        self.assert_told(frac_of(12, 4), (3, 1))
        self.assert_told(frac_of(4, 12), (1, 3))
        self.assert_told(frac_of(5, 5), (1, 1))
        self.assert_told(frac_of(-5, 5), (-1, 1))

    def test_forty_figures(self):
        self.assert_told(frac_of(FORTY, FORTY), (1, 1))
        self.assert_told(frac_of(FORTY, -FORTY), (-1, 1))
        self.assert_told(frac_of(LEAST_FORTY, 10 ** 38), (10, 1))
        self.assert_told(frac_of(2 * LEAST_FORTY, 6 * LEAST_FORTY), (1, 3))
        self.assert_told(frac_of(FORTY, FORTY - 1), (FORTY, FORTY - 1))
        self.assert_told(frac_of(-FORTY, 1), (-FORTY, 1))
        self.assert_told(frac_of(9, FORTY), (1, FORTY // 9))

    def test_small_ones_against_pythons_own(self):
        for top in range(-15, 16):
            for bottom in list(range(-15, 0)) + list(range(1, 16)):
                with self.subTest(top=top, bottom=bottom):
                    self.assert_told(frac_of(top, bottom), as_pair(Fraction(top, bottom)))


class Reckonings(Checked):
    def test_sum_of(self):
        self.assert_told(sum_of((1, 2), (1, 3)), (5, 6))
        self.assert_told(sum_of((1, 6), (1, 3)), (1, 2))
        self.assert_told(sum_of((1, 2), (1, 2)), (1, 1))
        self.assert_told(sum_of((1, 2), (-1, 2)), (0, 1))
        self.assert_told(sum_of((-1, 2), (-1, 3)), (-5, 6))
        self.assert_told(sum_of((0, 1), (0, 1)), (0, 1))
        self.assert_told(sum_of((0, 1), (3, 7)), (3, 7))

    def test_difference(self):
        self.assert_told(difference((1, 2), (1, 3)), (1, 6))
        self.assert_told(difference((1, 3), (1, 2)), (-1, 6))
        self.assert_told(difference((5, 6), (1, 3)), (1, 2))
        self.assert_told(difference((1, 2), (1, 2)), (0, 1))
        self.assert_told(difference((0, 1), (3, 7)), (-3, 7))
        self.assert_told(difference((-1, 2), (-3, 2)), (1, 1))

    def test_product(self):
        self.assert_told(product((1, 2), (2, 3)), (1, 3))
        self.assert_told(product((-1, 2), (2, 3)), (-1, 3))
        self.assert_told(product((-1, 2), (-2, 3)), (1, 3))
        self.assert_told(product((0, 1), (-7, 3)), (0, 1))
        self.assert_told(product((3, 2), (2, 3)), (1, 1))

    def test_quotient(self):
        self.assert_told(quotient((1, 2), (2, 3)), (3, 4))
        self.assert_told(quotient((2, 3), (1, 2)), (4, 3))
        self.assert_told(quotient((1, 2), (-1, 3)), (-3, 2))
        self.assert_told(quotient((-1, 2), (-1, 3)), (3, 2))
        self.assert_told(quotient((-1, 2), (1, 3)), (-3, 2))
        self.assert_told(quotient((0, 1), (-7, 3)), (0, 1))
        self.assert_told(quotient((-7, 3), (-7, 3)), (1, 1))

    def test_forty_figures(self):
        self.assert_told(sum_of((FORTY, 1), (1, 1)), (10 ** 40, 1))
        self.assert_told(sum_of((1, FORTY), (FORTY - 1, FORTY)), (1, 1))
        self.assert_told(difference((FORTY, FORTY - 1), (1, 1)), (1, FORTY - 1))
        self.assert_told(difference((1, FORTY), (1, FORTY - 1)), (-1, FORTY * (FORTY - 1)))
        self.assert_told(product((FORTY, FORTY - 1), (FORTY - 1, FORTY)), (1, 1))
        self.assert_told(product((FORTY, 1), (FORTY, 1)), (FORTY * FORTY, 1))
        self.assert_told(quotient((FORTY, 1), (1, FORTY)), (FORTY * FORTY, 1))
        self.assert_told(quotient((FORTY, 1), (-FORTY, 1)), (-1, 1))

    def test_against_pythons_own(self):
        for one, other in PAIRS:
            with self.subTest(one=one, other=other):
                left, right = Fraction(*one), Fraction(*other)
                self.assert_told(sum_of(one, other), as_pair(left + right))
                self.assert_told(difference(one, other), as_pair(left - right))
                self.assert_told(product(one, other), as_pair(left * right))
                if other != (0, 1):
                    self.assert_told(quotient(one, other), as_pair(left / right))

    def test_what_was_told_may_be_handed_in_again(self):
        one = (FORTY, FORTY - 1)
        for _ in range(8):
            one = product(one, one)
        self.assertGreater(one[1], 10 ** 10000)
        self.assertIs(is_frac(one), True)
        self.assertEqual(frac_of(3 * one[0], -3 * one[1]), (-one[0], one[1]))
        self.assertEqual(sum_of(one, one), product(one, (2, 1)))
        self.assertEqual(difference(one, one), (0, 1))
        self.assertEqual(quotient(one, one), (1, 1))
        self.assertIs(is_lesser(one, sum_of(one, (1, FORTY))), True)
        self.assertIs(is_lesser(one, one), False)

    def test_told_the_same_each_time(self):
        for reckon in [sum_of, difference, product, quotient, is_lesser]:
            first = [reckon(one, other) for one in FRACS for other in FRACS[1:]]
            again = [reckon(one, other) for one in reversed(FRACS) for other in reversed(FRACS[1:])]
            self.assertEqual(first, again[::-1])


class IsLesser(unittest.TestCase):
    def assert_rising(self, fracs):
        """Each is lesser than those behind it, and than no other one."""
        for place, one in enumerate(fracs):
            for at, other in enumerate(fracs):
                with self.subTest(one=one, other=other):
                    self.assertIs(is_lesser(one, other), place < at)

    def test_equal_ones(self):
        for one in FRACS + LARGE:
            self.assertIs(is_lesser(one, one), False)

    def test_rising_ones(self):
        self.assert_rising([(-2, 1), (-1, 1), (-2, 3), (-1, 2), (-1, 3), (0, 1), (1, 3), (1, 2), (2, 3), (1, 1), (3, 2)])

    def test_near_ones(self):
        self.assert_rising([(99, 100), (100, 101), (1, 1), (101, 100), (100, 99)])
        self.assert_rising([(FORTY - 2, FORTY - 1), (FORTY - 1, FORTY), (1, 1), (FORTY, FORTY - 1)])
        self.assert_rising([(1, FORTY), (1, FORTY - 1), (2, FORTY - 2)])

    def test_negative_near_ones(self):
        self.assert_rising([(-100, 99), (-101, 100), (-1, 1), (-100, 101), (-99, 100)])
        self.assert_rising([(-FORTY, 1), (1 - FORTY, 1), (-1, FORTY - 1), (-1, FORTY), (0, 1), (1, FORTY)])

    def test_than_what_is_no_fraction(self):
        for one in FRACS:
            for other in [None, True, 5, "", "1/2", (), [], (1,), (5, 0), (2, 4), (5, -1), [5, 1], (5, 1, 1), (True, 1), ("5", 1), [[[[[[]]]]]]]:
                self.assertIs(is_lesser(one, other), False)

    def test_against_pythons_own(self):
        for one, other in PAIRS:
            with self.subTest(one=one, other=other):
                self.assertIs(is_lesser(one, other), Fraction(*one) < Fraction(*other))


if __name__ == "__main__":
    unittest.main()
