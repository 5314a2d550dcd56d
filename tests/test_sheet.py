"""Sheets that are refused: rows that can't stand, sheets spoilt anywhere; and the greatest ones."""

import unittest

from helpers import FORTY, Turns, refusal
from kettlerow.desk import answers
from rowsmade import GREATEST_KETTLES, GREATEST_MOULDS, KETTLES, MOULDS
from sheetsmade import asks_by, first_sheet_fault, model_answers, row_lines, sheet_of

TOP = row_lines(KETTLES, MOULDS)
SMALL = "kettle pan 90 5 1/2\nmould cone 60 1/3\nat 0 juice pan 9 30\nat 1 strike pan cone 1/2 cone 1/3\nuntell 4\njuice pan 2\nwaits 3\ncount"
SIGNS = " \n09/-akm:A~"


class Checked(unittest.TestCase):
    def assert_refused(self, number, *lines):
        text = "\n".join(lines)
        for _ in range(2):
            told = refusal(answers, text)
            self.assertEqual(told, ("BadRow", number), text)
            self.assertIs(type(told[1]), int)

    def assert_as_found(self, text):
        """Refused or answered, as is found without the program."""
        number = first_sheet_fault(text)
        told = refusal(answers, text)
        self.assertEqual(told, None if number is None else ("BadRow", number), text)
        return number is None


class TheRowsText(Checked):
    def test_none(self):
        self.assert_refused(0, "")
        self.assert_refused(0, "count")
        self.assert_refused(0, "", *TOP)
        self.assert_refused(0, "at 0 stop sirop", *TOP)
        self.assert_refused(0, " kettle pan 9 9 1/2")
        self.assert_refused(0, "kettles pan 9 9 1/2")

    def test_no_kettle(self):
        self.assert_refused(1, "mould cone 9 0")
        self.assert_refused(1, "mould cone 9 0", "count")
        self.assert_refused(2, "mould cone 9 0", "mould loaf 9 0", "at 0 stop sirop", "nothing")
        self.assert_refused(1, "mould cone 9 0", "kettle pan 9 9 1/2", "count")

    def test_as_row_from_refuses(self):
        many = len(KETTLES)
        for line in [
            "kettle", "kettle ", "kettle pan 0 9 1/2", "kettle pan 9 9 1", "kettle pan 9 9 2/4", "kettle Pan 9 9 1/2", "kettle pan 09 9 1/2",
            "kettle pan 9 9 1/2 ", "kettle pan  9 9 1/2", "mould hat 9 1", "mould hat", "mould",
        ]:
            self.assert_refused(0, line)
            self.assert_refused(many, *TOP[:many], line, *TOP[many:], "count")
            self.assert_refused(len(TOP), *TOP, line, "count")

    def test_names_that_are_there(self):
        self.assert_refused(len(KETTLES), *TOP[:len(KETTLES)], "kettle sirop 9 9 1/2", "count")
        self.assert_refused(len(TOP), *TOP, "mould sirop 9 0", "count")
        self.assert_refused(len(TOP), *TOP, "mould cone 9 0", "count")

    def test_a_kettle_behind_a_mould(self):
        self.assert_refused(len(TOP), *TOP, "kettle pan 9 9 1/2", "count")

    def test_too_many(self):
        self.assert_refused(8, *row_lines(GREATEST_KETTLES, []), "kettle pan 9 9 1/2", "count")
        self.assert_refused(48, *row_lines(GREATEST_KETTLES, GREATEST_MOULDS), "mould cone 9 0", "count")

    def test_it_goes_ahead_of_the_rows_behind(self):
        self.assert_refused(1, "mould cone 9 0", "nonsense", "")
        self.assert_refused(1, TOP[0], "kettle pan", "nonsense")

    def test_it_ends_ahead_of_another_word(self):
        # Behind the first other row no kettle and no mould can stand any more.
        self.assert_refused(len(TOP) + 1, *TOP, "count", "mould hat 9 0")
        self.assert_refused(len(TOP) + 1, *TOP, "count", "kettle pan 9 9 1/2", "nonsense")
        self.assert_refused(3, *TOP[:3], "", *TOP[3:])


class RowsBehind(Checked):
    def assert_row(self, line, awaited):
        """A row can stand behind the row's text and other rows, or it can't."""
        behind = ["at 0 stop sirop", "count"]
        text = "\n".join([*TOP, *behind, line, "voids"])
        self.assertEqual(refusal(answers, text), None if awaited else ("BadRow", len(TOP) + 2), line)
        self.assertEqual(first_sheet_fault(text) is None, awaited, line)

    def test_words(self):
        for line in ["", " ", "-", "Count", "counts", "tell 1", "sum 3", "bear cone 3", "untell", "strike sirop cone 1", "stop sirop", "# count", "at", "at "]:
            self.assert_row(line, False)

    def test_blanks(self):
        for line in ["at 3 stop sirop", "juice sirop 3", "loaves 3", "count", "at 3 strike sirop cone 1/2 loaf 1/3"]:
            self.assert_row(line, True)
            for other in [" " + line, line + " ", line.replace(" ", "  "), line.replace(" ", "   "), line + "  ", line + " x", line + " 3"]:
                if other != line:
                    self.assert_row(other, False)

    def test_hours_and_numbers(self):
        for number in ["0", "1", "9", "10", "200", "201", "9999999", "1000000"]:
            for line in ["at {} stop sirop", "untell {}", "juice sirop {}", "ready sirop {}", "filled cone {}", "bears cone {}", "loaves {}", "vat {}",
                         "sums {}", "waits {}", "struck {}"]:
                self.assert_row(line.format(number), True)
        for number in ["00", "01", "-1", "-0", "+1", "1/2", "10000000", "00000001", "1.0", "a", "", "1_0", "99999999999999999999", "--", "0x1", "1e1"]:
            for line in ["at {} stop sirop", "untell {}", "juice sirop {}", "bears cone {}", "vat {}", "sums {}", "waits {}", "struck {}"]:
                self.assert_row(line.format(number), False)

    def test_sugar_and_water(self):
        for sugar, water in [("0", "1"), ("1", "0"), ("1000000", "1000000"), ("999999", "0"), ("0", "1000000")]:
            self.assert_row(f"at 3 juice sirop {sugar} {water}", True)
        for sugar, water in [
            ("0", "0"), ("1000001", "0"), ("0", "1000001"), ("9999999", "1"), ("10000000", "1"), ("01", "1"), ("1", "00"), ("-1", "2"), ("1/2", "1"), ("1", ""),
        ]:
            self.assert_row(f"at 3 juice sirop {sugar} {water}", False)

    def test_names(self):
        lines = [
            "at 3 juice {} 1 1", "at 3 ladle {} b 1/2", "at 3 ladle b {} 1/2", "at 3 skim {} 1/2 0 b", "at 3 skim b 1/2 0 {}", "at 3 stop {}", "at 3 start {}",
            "at 3 strike {} b 1/2", "at 3 strike b {} 1/2", "at 3 strike b c 1/2 {} 1/2", "at 3 drain {}", "at 3 knock {}", "at 3 drips {} 1/2",
            "juice {} 3", "ready {} 3", "filled {} 3", "bears {} 3",
        ]
        for line in lines:
            for name in ["a", "abcdefgh", "vat", "kettle", "mould", "at", "zzzzzzzz"]:
                self.assert_row(line.format(name), True)
            for name in ["", "A", "abcdefghi", "a1", "1", "a-b", "{", "`", "1/2", "-"]:
                self.assert_row(line.format(name), False)

    def test_shares(self):
        lines = [
            "at 3 ladle a b {}", "at 3 skim a {} 1/2 b", "at 3 skim a 1/2 {} b", "at 3 strike a b {}", "at 3 strike a b 1/2 c {}", "at 3 drips a {}",
        ]
        for line in lines:
            for share in ["0", "1", "1/2", "-1/2", "-3", "13/12", "5", f"{FORTY}", f"-{FORTY}", f"1/{FORTY}", f"{FORTY - 1}/{FORTY}"]:
                self.assert_row(line.format(share), True)
            for share in [
                "", "2/4", "1/1", "0/1", "-0", "1/0", "01", "1/02", "+1", "1/-2", "--1", "1/2/3", "/2", "1/", "a", f"{FORTY + 1}", f"1/{FORTY + 1}",
                f"-{FORTY + 1}", "1.5", "-", "1 /2",
            ]:
                self.assert_row(line.format(share), False)

    def test_pours(self):
        for many in range(0, 15):
            self.assert_row("at 3 strike sirop" + " cone 1/2" * many, 1 <= many <= 12)
            self.assert_row("at 3 strike sirop" + " cone 1/2" * many + " cone", False)
            self.assert_row("at 3 strike sirop" + " cone 1/2" * many + " 1/2", False)
        self.assert_row("at 3 strike sirop 1/2 cone", False)
        self.assert_row("at 3 strike", False)

    def test_deeds_at_no_hour_are_read_all_the_same(self):
        self.assert_row("at 9999999 stop sirop", True)
        self.assert_row("at 9999999 stop Sirop", False)
        self.assert_row("at 201 juice sirop 0 0", False)

    def test_the_first_one_goes(self):
        self.assert_refused(len(TOP) + 1, *TOP, "count", "Count", "at", "counts")
        self.assert_refused(len(TOP), *TOP, "", "")
        self.assert_refused(len(TOP) + 1, *TOP, "count", "")

    def test_refused_ahead_of_all(self):
        # Nothing that the rows ahead would be answered with is told.
        self.assert_refused(len(TOP) + 3, *TOP, "at 0 juice sirop 40 60", "juice sirop 3", "at 201 stop sirop", "stop sirop")


class SpoiltAnywhere(Checked):
    def test_each_sign(self):
        fine = 0
        many = 0
        for at in range(len(SMALL) + 1):
            for sign in SIGNS:
                fine += self.assert_as_found(SMALL[:at] + sign + SMALL[at:])
                fine += self.assert_as_found(SMALL[:at] + sign + SMALL[at + 1:])
                many += 2
            fine += self.assert_as_found(SMALL[:at] + SMALL[at + 1:])
            self.assert_as_found(SMALL[:at])
        self.assertGreater(fine, 100)
        self.assertGreater(many - fine, 1000)

    def test_rows_left_out_doubled_and_swapped(self):
        for at, row in enumerate([(KETTLES, MOULDS, 400), ([("a", 90, 5, (1, 2))], [("b", 60, (1, 3))], 60)]):
            lines = sheet_of(row[0], row[1], asks_by(Turns(840 + at), row, 12)).split("\n")
            self.assertIs(self.assert_as_found("\n".join(lines)), True)
            for place in range(len(lines)):
                self.assert_as_found("\n".join(lines[:place] + lines[place + 1:]))
                self.assert_as_found("\n".join(lines[:place] + [lines[place]] + lines[place:]))
                for other in range(place):
                    swapped = list(lines)
                    swapped[place], swapped[other] = lines[other], lines[place]
                    self.assert_as_found("\n".join(swapped))

    def test_two_faults(self):
        lines = SMALL.split("\n")
        for one in range(len(lines)):
            for other in range(len(lines)):
                spoilt = list(lines)
                spoilt[one] = spoilt[one] + " "
                spoilt[other] = "x" + spoilt[other]
                self.assert_as_found("\n".join(spoilt))


class Greatest(Checked):
    def test_four_hundred_rows(self):
        asks = []
        for at in range(352):
            kettle = GREATEST_KETTLES[at % 8][0]
            if at < 8:
                asks.append(("at", 0, ("juice", kettle, 590000, 410000)))
            elif at % 4 == 0:
                pours = [(name, (1, 12)) for name, _, _ in GREATEST_MOULDS[at % 28:at % 28 + 12]]
                asks.append(("at", at % 201, ("strike", kettle, pours)))
            elif at % 4 == 1:
                asks.append(("at", 199, ("drain", GREATEST_MOULDS[at % 40][0])))
            else:
                asks.append([("sums", at % 201), ("voids",), ("waits", 200), ("bears", GREATEST_MOULDS[at % 40][0], 200)][at // 4 % 4])
        text = sheet_of(GREATEST_KETTLES, GREATEST_MOULDS, asks)
        lines = text.split("\n")
        self.assertEqual(len(lines), 400)
        self.assertGreater(max(len(line) for line in lines), 180)
        told = answers(text)
        self.assertEqual(len(told), 352)
        self.assertEqual(told[:8], [str(number) for number in range(1, 9)])
        for cut in [60, 150]:
            self.assertEqual(told[:cut], model_answers(GREATEST_KETTLES, GREATEST_MOULDS, asks[:cut]))

    def test_rows_of_two_hundred_signs(self):
        line = "at 200 strike aaaaaaaa" + " iqqqqqqq 1/2" * 11 + " i"
        share = "1/" + "9" * (200 - len(line) - 3)
        self.assertEqual(len(line + " " + share), 200)
        text = "\n".join(row_lines(GREATEST_KETTLES, GREATEST_MOULDS) + [line + " " + share] * 352)
        told = answers(text)
        self.assertEqual(told, [str(number) for number in range(1, 353)])

    def test_the_last_row_at_fault(self):
        lines = row_lines(GREATEST_KETTLES, GREATEST_MOULDS) + ["at 0 stop aaaaaaaa"] * 351
        self.assert_refused(399, *lines, "at 0 stop aaaaaaaaa")
        self.assert_refused(399, *lines, "x" * 200)
        self.assert_refused(399, *lines, "")


if __name__ == "__main__":
    unittest.main()
