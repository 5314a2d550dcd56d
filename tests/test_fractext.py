"""Fractions as texts, there and back, and the texts that are none."""

import itertools
import unittest
from math import gcd

from kettlerow.errors import BadFrac
from kettlerow.fractext import frac_in, frac_text

FORTY = 10 ** 40 - 1
NINES = "9" * 40

WRITTEN = [
    ((0, 1), "0"), ((1, 1), "1"), ((-1, 1), "-1"), ((5, 1), "5"), ((-5, 1), "-5"), ((10, 1), "10"), ((-120, 1), "-120"),
    ((1, 2), "1/2"), ((-1, 2), "-1/2"), ((7, 3), "7/3"), ((-7, 3), "-7/3"), ((1, 10), "1/10"), ((100, 101), "100/101"),
    ((-3, 20), "-3/20"), ((1, 12), "1/12"), ((59, 60), "59/60"),
    ((FORTY, 1), NINES), ((-FORTY, 1), "-" + NINES), ((1, FORTY), "1/" + NINES), ((-1, FORTY), "-1/" + NINES),
    ((10 ** 39, FORTY), "1" + "0" * 39 + "/" + NINES), ((-FORTY, 10 ** 39), "-" + NINES + "/1" + "0" * 39),
]

SPOILT = [
    "", " ", "  ", "-", "--", "/", "-/", "+", "+1", "+1/2", "-+1", "+-1", "1+", "1/+2", "--1", "--1/2", "1-", "1-2", "1/2-",
    "00", "01", "-01", "007", "01/2", "-01/2", "1/02", "1/010", "00/1", "000",
    "-0", "-0/1", "0/1", "0/2", "-0/2", "0/0", "0/7",
    "1/0", "-1/0", "1/1", "5/1", "-5/1", "1/00", "1/01",
    "1/-2", "-1/-2", "1/-1", "0/-1",
    "1/2/3", "1//2", "/1/2", "1/2/", "//", "-1//2", "1/", "-1/", "/2", "-/2",
    "2/4", "-2/4", "4/2", "2/2", "-2/2", "6/3", "10/4", "77/91",
    "\n", "\n1", "1\n", "\n1/2", "1/2\n", "1\n/2", "1/\n2", "1\n2", "-\n1", "1/2\n1/2", "\n\n",
    " 1", "1 ", " 1/2", "1/2 ", "1 /2", "1/ 2", "1 2", "- 1", "-1 ",
    "a", "1a", "a1", "1/a", "a/2", "0x1", "1e2", "1.5", "1.0", "1,5", "1_0", "1_0/3", "1/1_0", "0b1", "one", "None", "True",
    "(1, 2)", "1:2", "1\\2", "~", "1~", "!", "\"1\"", "'1'",
]


def refusal_of(text):
    """The error with which a text is refused; None where it is told as a fraction."""
    try:
        frac_in(text)
    except ValueError as error:
        return error
    return None


def small_texts(most):
    """Each fraction that can be written in so many signs, by its text, found without the program."""
    told = {}
    for top in range(10 ** most):
        left = max(most - len(str(top)) - 1, 0)
        for bottom in range(1, 10 ** left + 1):
            text = str(top) if bottom == 1 else str(top) + "/" + str(bottom)
            if gcd(top, bottom) != 1 or len(text) > most:
                continue
            told[text] = (top, bottom)
            if top and len(text) < most:
                told["-" + text] = (-top, bottom)
    return told


class FracText(unittest.TestCase):
    def test_written(self):
        for one, text in WRITTEN:
            with self.subTest(text=text):
                told = frac_text(one)
                self.assertEqual(told, text)
                self.assertIs(type(told), str)

    def test_numbers_of_each_length(self):
        for length in range(1, 300):
            for number, text in [
                (10 ** length, "1" + "0" * length), (10 ** length - 1, "9" * length),
                (10 ** length + 7, "1" + "7".rjust(length, "0")), (7 * 10 ** length, "7" + "0" * length),
            ]:
                self.assertEqual(frac_text((number, 1)), text)
                self.assertEqual(frac_text((-number, 1)), "-" + text)
                self.assertEqual(frac_text((1, number)), "1/" + text)

    def test_what_was_told_may_be_handed_in_whatever_its_size(self):
        many = 20000
        noughts = "0" * (many - 1)
        self.assertEqual(frac_text((10 ** many, 1)), "1" + noughts + "0")
        self.assertEqual(frac_text((-(10 ** many) - 3, 10 ** many)), "-1" + noughts + "3/1" + noughts + "0")
        self.assertEqual(frac_text((10 ** many - 1, 10 ** many)), "9" * many + "/1" + noughts + "0")

    def test_told_the_same_each_time(self):
        first = [frac_text(one) for one, _ in WRITTEN]
        again = [frac_text(one) for one, _ in reversed(WRITTEN)]
        self.assertEqual(first, again[::-1])


class FracIn(unittest.TestCase):
    def assert_told(self, text, awaited):
        told = frac_in(text)
        self.assertEqual(told, awaited)
        self.assertIs(type(told), tuple)
        self.assertEqual([type(part) for part in told], [int, int])

    def assert_refused(self, text):
        error = refusal_of(text)
        self.assertIsNotNone(error, "was told as a fraction")
        self.assertIs(type(error), BadFrac)
        self.assertEqual(error.what, text)

    def test_written(self):
        for one, text in WRITTEN:
            with self.subTest(text=text):
                self.assert_told(text, one)

    def test_there_and_back(self):
        for top in range(-40, 41):
            for bottom in range(1, 41):
                if gcd(top, bottom) == 1:
                    self.assert_told(frac_text((top, bottom)), (top, bottom))

    def test_spoilt(self):
        for text in SPOILT:
            with self.subTest(text=text):
                self.assert_refused(text)

    def test_each_short_text(self):
        told = small_texts(5)
        for length in range(6):
            for signs in itertools.product("-/0124 \n", repeat=length):
                text = "".join(signs)
                if text in told:
                    self.assert_told(text, told[text])
                else:
                    self.assert_refused(text)

    def test_each_sign_at_each_place(self):
        told = small_texts(4)
        signs = "\n" + "".join(chr(code) for code in range(32, 127) if chr(code) != "%")
        for text in ["3/7", "12", "-5"]:
            for at in range(len(text) + 1):
                for sign in signs:
                    with self.subTest(text=text, at=at, sign=sign):
                        spoilt = text[:at] + sign + text[at:]
                        if spoilt in told:
                            self.assert_told(spoilt, told[spoilt])
                        else:
                            self.assert_refused(spoilt)

    def test_forty_figures(self):
        self.assert_told(NINES, (FORTY, 1))
        self.assert_told("-" + NINES, (-FORTY, 1))
        self.assert_told("-1/" + NINES, (-1, FORTY))
        self.assert_told(NINES + "/" + NINES[1:] + "8", (FORTY, FORTY - 1))
        self.assert_told("-" + NINES[1:] + "8/" + NINES, (1 - FORTY, FORTY))

    def test_forty_one_figures(self):
        ahead = "1" + "0" * 40
        for text in [
            ahead, "-" + ahead, ahead + "/3", "-" + ahead + "/3", "1/" + ahead, "-1/" + ahead, NINES + "/" + ahead,
            "-" + NINES + "/" + ahead, ahead + "/" + NINES, "9" + NINES, "1/9" + NINES, "9" + NINES + "/" + ahead,
        ]:
            with self.subTest(text=text):
                self.assert_refused(text)

    def test_forty_one_signs_of_figures_with_a_nought_ahead(self):
        for text in ["0" + NINES, "-0" + NINES, "0" * 41, "1/0" + NINES, "0" + NINES + "/2"]:
            with self.subTest(text=text):
                self.assert_refused(text)

    def test_forty_figures_not_in_lowest_terms(self):
        for text in [NINES + "/" + NINES, NINES + "/3", "-" + NINES + "/9", "1" + "0" * 39 + "/2", "5/1" + "0" * 39]:
            with self.subTest(text=text):
                self.assert_refused(text)

    def test_long_texts(self):
        rows = "\n".join(["7" * 200] * 400)
        for text in [rows, "7" * 200, "-" + "7" * 199, "1/" + "7" * 198, "7" * 99 + "/" + "8" * 99, "/" * 200, "-" * 200]:
            self.assert_refused(text)

    def test_told_the_same_each_time(self):
        for _ in range(3):
            self.assert_told("-7/3", (-7, 3))
            self.assert_refused("-0")
            self.assert_refused("6/3")
            self.assert_told("0", (0, 1))


if __name__ == "__main__":
    unittest.main()
