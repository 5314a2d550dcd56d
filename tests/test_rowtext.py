"""Rows as texts, there and back, and the texts that are none."""

import unittest
from math import gcd

from helpers import Turns, refusal
from kettlerow.rows import Row
from kettlerow.rowtext import row_from, row_text
from rowfaults import first_fault
from rowsmade import GREATEST_KETTLES, GREATEST_MOULDS, KETTLES, MOULDS

WRITTEN = [
    ([("pan", 100, 5, (1, 2))], [], "kettle pan 100 5 1/2"),
    ([("pan", 1, 0, (1, 60))], [("cone", 1, (0, 1))], "kettle pan 1 0 1/60\nmould cone 1 0"),
    ([("z", 10 ** 6, 10 ** 4, (59, 60))], [("y", 10 ** 6, (11, 12))], "kettle z 1000000 10000 59/60\nmould y 1000000 11/12"),
    ([("kettle", 10, 10, (7, 10))], [("mould", 10, (1, 10))], "kettle kettle 10 10 7/10\nmould mould 10 1/10"),
    (KETTLES, MOULDS, "\n".join([
        "kettle grande 1000 40 1/4", "kettle flambeau 600 30 1/3", "kettle sirop 300 20 1/2", "kettle batterie 120 10 3/4",
        "mould cone 50 1/4", "mould loaf 60 1/3", "mould bastard 200 0", "mould tip 1 11/12",
    ])),
]
PAN = "kettle pan 100 5 1/2"
CONE = "mould cone 50 1/4"
SOME_SIGNS = "\n 0179/-abz{`KkmM~!"


class Checked(unittest.TestCase):
    def assert_row(self, text, kettles, moulds):
        row = row_from(text)
        self.assertIs(type(row), Row)
        self.assertEqual((row.kettles, row.moulds), (tuple(kettles), tuple(moulds)))

    def assert_refused(self, text, number):
        told = refusal(row_from, text)
        self.assertEqual(told, ("BadRow", number))
        self.assertIs(type(told[1]), int)

    def assert_as_found(self, text):
        """Told or refused, as is found without the program, and written again as it was."""
        number = first_fault(text)
        if number is None:
            self.assertEqual(row_text(row_from(text)), text)
        else:
            self.assert_refused(text, number)


class ThereAndBack(Checked):
    def test_written(self):
        for kettles, moulds, text in WRITTEN:
            told = row_text(Row(kettles, moulds))
            self.assertEqual(told, text)
            self.assertIs(type(told), str)

    def test_read(self):
        for kettles, moulds, text in WRITTEN:
            self.assert_row(text, kettles, moulds)

    def test_each_mark_and_drip(self):
        for bottom in range(2, 61):
            for top in range(1, bottom):
                if gcd(top, bottom) == 1:
                    kettles = [("pan", bottom, top, (top, bottom))]
                    moulds = [("cone", bottom, (top, bottom))] if bottom <= 12 else []
                    self.assert_row(row_text(Row(kettles, moulds)), kettles, moulds)

    def test_the_greatest(self):
        text = row_text(Row(GREATEST_KETTLES, GREATEST_MOULDS))
        lines = text.split("\n")
        self.assertEqual(len(lines), 48)
        self.assertEqual(lines[0], "kettle aaaaaaaa 1000000 10000 59/60")
        self.assertEqual(lines[47], "mould lzzzzzzz 1000000 11/12")
        self.assert_row(text, GREATEST_KETTLES, GREATEST_MOULDS)

    def test_two_by_turns(self):
        one, other = Row(KETTLES, MOULDS), Row([("pan", 100, 5, (1, 2))], [])
        for _ in range(3):
            self.assertEqual(row_text(one), WRITTEN[4][2])
            self.assertEqual(row_text(other), PAN)
            self.assert_row(WRITTEN[4][2], KETTLES, MOULDS)
            self.assert_row(PAN, [("pan", 100, 5, (1, 2))], [])

    def test_rows_read_twice_are_no_one_row(self):
        one, other = row_from(PAN), row_from(PAN)
        self.assertIsNot(one, other)
        self.assertEqual(one.kettles, other.kettles)


class Refused(Checked):
    def test_no_kettle(self):
        self.assert_refused(CONE, 1)
        self.assert_refused(CONE + "\nmould loaf 50 0", 2)
        self.assert_refused("\n".join(["mould " + name + " 1 0" for name, _, _ in GREATEST_MOULDS]), 40)

    def test_no_rows(self):
        self.assert_refused("", 0)
        self.assert_refused("\n", 0)
        self.assert_refused(" ", 0)

    def test_empty_rows(self):
        self.assert_refused("\n" + PAN, 0)
        self.assert_refused(PAN + "\n", 1)
        self.assert_refused(PAN + "\n" + CONE + "\n", 2)
        self.assert_refused(PAN + "\n\n" + CONE, 1)
        self.assert_refused(CONE + "\n", 1)

    def test_kettles_behind_moulds(self):
        self.assert_refused(CONE + "\n" + PAN, 1)
        self.assert_refused(PAN + "\n" + CONE + "\nkettle pot 1 1 1/2", 2)

    def test_names_that_are_there(self):
        self.assert_refused(PAN + "\n" + PAN, 1)
        self.assert_refused(PAN + "\n" + CONE + "\nmould cone 1 0", 2)
        self.assert_refused(PAN + "\nmould pan 50 1/4", 1)

    def test_one_too_many(self):
        kettles = row_text(Row(GREATEST_KETTLES, [])).split("\n")
        moulds = row_text(Row(GREATEST_KETTLES, GREATEST_MOULDS)).split("\n")[8:]
        self.assert_refused("\n".join(kettles + [PAN]), 8)
        self.assert_refused("\n".join(kettles + [PAN] + moulds), 8)
        self.assert_refused("\n".join(kettles + moulds + [CONE]), 48)
        self.assert_refused("\n".join([PAN] + moulds + [CONE]), 41)
        self.assert_refused("\n".join(moulds + [CONE]), 40)

    def test_words(self):
        for line in [
            "kettle", "mould", "kettle pan", "kettle pan 100", "kettle pan 100 5", "kettle pan 100 5 1/2 1", "mould cone 50",
            "mould cone 50 1/4 1", "mould pan 100 5 1/2", "kettle cone 50 1/4", "Kettle pan 100 5 1/2", "kettles pan 100 5 1/2",
            "pot pan 100 5 1/2", "pan 100 5 1/2", "kettle  pan 100 5 1/2", " kettle pan 100 5 1/2", "kettle pan 100 5 1/2 ",
            "kettle pan  100 5 1/2", "kettle pan 100 5  1/2", "kettle\npan 100 5 1/2", "kettle pan 100 5 1 /2",
        ]:
            with self.subTest(line=line):
                self.assert_refused(line, 0)
                self.assert_refused("kettle other 1 1 1/2\n" + line, 1)
                self.assert_refused(line + "\n" + PAN, 0)

    def test_numbers(self):
        for word in ["00", "01", "0100", "+1", "-1", "-0", "1.0", "1e2", "1_0", "a", "", "1/2", "2/1", "9" * 190, "1" + "0" * 180]:
            with self.subTest(word=word):
                self.assert_refused("kettle pan " + word + " 5 1/2", 0)
                self.assert_refused("kettle pan 100 " + word + " 1/2", 0)
                self.assert_refused(PAN + "\nmould cone " + word + " 1/4", 1)

    def test_bounds(self):
        self.assert_refused("kettle pan 0 5 1/2", 0)
        self.assert_refused("kettle pan 1000001 5 1/2", 0)
        self.assert_refused("kettle pan 100 10001 1/2", 0)
        self.assert_refused(PAN + "\nmould cone 0 1/4", 1)
        self.assert_refused(PAN + "\nmould cone 1000001 1/4", 1)

    def test_marks_and_drips(self):
        for word in [
            "1", "2", "2/4", "0/1", "1/1", "3/2", "-1/2", "-0", "00", "01/2", "1/02", "1/", "/2", "1//2", "1/2/3", "1/61", "60/61",
            "1/" + "9" * 40, "1/1" + "0" * 40, "half", "", "1/-2",
        ]:
            with self.subTest(word=word):
                self.assert_refused("kettle pan 100 5 " + word, 0)
                self.assert_refused(PAN + "\nmould cone 50 " + word, 1)
        self.assert_refused("kettle pan 100 5 0", 0)
        self.assert_refused(PAN + "\nmould cone 50 1/13", 1)
        self.assert_refused(PAN + "\nmould cone 50 59/60", 1)

    def test_the_first_one_goes(self):
        text = "\n".join([PAN, "kettle pan 1 1 1/2", "kettle Pot 1 1 1/2", ""])
        self.assert_refused(text, 1)
        self.assert_refused("\n".join([PAN, CONE, "mould cone 1", PAN]), 2)
        self.assert_refused("\n".join([""] * 400), 0)

    def test_the_same_is_refused_each_time(self):
        for _ in range(3):
            self.assert_refused(PAN + "\n" + PAN, 1)
            self.assert_row(PAN, [("pan", 100, 5, (1, 2))], [])
            self.assert_refused(CONE, 1)


class Spoilt(Checked):
    def test_each_sign_put_in_anywhere(self):
        text = "kettle a 10 0 1/2\nkettle bc 7 12 7/12\nmould d 40 0"
        for at in range(len(text) + 1):
            for sign in SOME_SIGNS:
                self.assert_as_found(text[:at] + sign + text[at:])

    def test_each_sign_left_out_or_put_for_another(self):
        text = WRITTEN[4][2]
        for at in range(len(text)):
            self.assert_as_found(text[:at] + text[at + 1:])
            self.assert_as_found(text[:at] + text[at] + text[at:])
            for sign in SOME_SIGNS:
                self.assert_as_found(text[:at] + sign + text[at + 1:])

    def test_rows_left_out_told_twice_or_elsewhere(self):
        lines = row_text(Row(GREATEST_KETTLES, GREATEST_MOULDS[:-1])).split("\n")
        for at in range(len(lines)):
            self.assert_as_found("\n".join(lines[:at] + lines[at + 1:]))
            for to in range(0, len(lines), 3):
                self.assert_as_found("\n".join(lines[:to] + [lines[at]] + lines[to:]))
                others = lines[:at] + lines[at + 1:]
                self.assert_as_found("\n".join(others[:to] + [lines[at]] + others[to:]))

    def test_rows_of_words_by_turns(self):
        turns = Turns(5)
        words = ["kettle", "mould", "a", "b", "c", "1", "0", "10", "1/2", "1/12", "1/13", "", "01"]
        fine = ["kettle a 1 0 1/2", "kettle b 10 1 1/13", "mould c 1 0", "mould a 1 1/2", "mould b 10 1/12"]
        for _ in range(4000):
            lines = [turns.one_of(fine) for _ in range(turns.between(0, 4))]
            if turns.below(2):
                lines.append(" ".join([turns.one_of(words) for _ in range(turns.between(1, 6))]))
            self.assert_as_found("\n".join(lines))


if __name__ == "__main__":
    unittest.main()
