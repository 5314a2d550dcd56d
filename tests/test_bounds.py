"""All of the program up to its bounds: the greatest fractions, rows, deeds, rounds, days, books and sheets together."""

import unittest
from fractions import Fraction

from daysmodel import greatest_day
from helpers import FORTY, juice, pair, refusal, works_told
from kettlerow.book import Book
from kettlerow.daymost import binding_places, first_hour, most_plan, most_struck
from kettlerow.dayproof import shows_most
from kettlerow.days import is_day, shows_plan
from kettlerow.deeds import is_deed
from kettlerow.desk import answers
from kettlerow.fractext import frac_in, frac_text
from kettlerow.rounds import are_kinds, gap_between, walked_on
from kettlerow.rows import Row
from kettlerow.rowtext import row_from, row_text
from kettlerow.steady import rounds_till, shows_steady, steady_state
from kettlerow.works import Works
from rowsmade import GREATEST_KETTLES, GREATEST_MOULDS

ALL = (1, 1)
ROW_TEXT = row_text(Row(GREATEST_KETTLES, GREATEST_MOULDS))
KETTLE_NAMES = [kettle[0] for kettle in GREATEST_KETTLES]
MOULD_NAMES = [mould[0] for mould in GREATEST_MOULDS]


def greatest_works():
    """Works of the greatest row, read from its text."""
    return Works(row_from(ROW_TEXT))


class UpToTheBounds(unittest.TestCase):
    def assert_balanced(self, works):
        for first, *others in works.sums():
            self.assertEqual(sum(Fraction(*part) for part in others), Fraction(*first))

    def test_fractions_of_forty_figures(self):
        for text in [f"{FORTY}", f"-{FORTY}", f"1/{FORTY}", f"{FORTY}/{FORTY - 1}", f"-{FORTY - 1}/{FORTY}"]:
            self.assertEqual(frac_text(frac_in(text)), text)
        for text in [f"{FORTY + 1}", f"1/{FORTY + 1}", f"-{FORTY + 1}", f"{FORTY + 1}/{FORTY}"]:
            self.assertEqual(refusal(frac_in, text), ("BadFrac", text))

    def test_kettles_full_to_the_room_and_no_further(self):
        works = greatest_works()
        for name in KETTLE_NAMES:
            works.do(("juice", name, 10 ** 6 - 1, 1))
            self.assertEqual(refusal(works.do, ("juice", name, 0, 1)), ("NoRoom", name))
            self.assertEqual(refusal(works.do, ("juice", name, 10 ** 6, 10 ** 6)), ("NoRoom", name))
        self.assertEqual(works.sums()[0][0], (8 * (10 ** 6 - 1), 1))
        self.assert_balanced(works)

    def test_a_thousand_hours_at_once_or_one_by_one(self):
        row = Row([("pan", 10 ** 6, 10 ** 4, (59, 60)), ("pot", 10 ** 6, 1, (1, 60)), ("low", 10 ** 6, 0, (1, 2))], [])
        once, parts = Works(row), Works(row)
        for works in [once, parts]:
            for name in ["pan", "pot", "low"]:
                works.do(("juice", name, 7, 999993))
        once.boil_on(1000)
        for _ in range(1000):
            parts.boil_on(1)
        self.assertEqual(works_told(once), works_told(parts))
        kettles = once.kettles_now()
        self.assertEqual(kettles.juice_of("pan"), juice(7, Fraction(7, 59)))
        self.assertEqual(kettles.juice_of("pot"), juice(7, 998993))
        self.assertEqual(kettles.ready_at("pot"), pair(999993 - 7 * 59))
        self.assertIsNone(kettles.ready_at("low"))

    def test_all_moulds_of_the_greatest_row_through_a_book(self):
        book = Book(row_from(ROW_TEXT))
        for name in KETTLE_NAMES:
            book.tell(0, ("juice", name, 590000, 410000))
        for at, name in enumerate(KETTLE_NAMES):
            book.tell(0, ("strike", name, [(mould, (1, 5)) for mould in MOULD_NAMES[5 * at:5 * at + 5]]))
        for mould in MOULD_NAMES:
            book.tell(199, ("drain", mould))
            book.tell(200, ("knock", mould))
        # In each kettle 400000 of water go off, 10000 in an hour.
        self.assertEqual([book.struck_at(number) for number in range(9, 17)], [40] * 8)
        self.assertEqual(book.waiting(39), list(range(9, 17)))
        self.assertEqual((book.waiting(40), book.voids()), ([], []))
        self.assertEqual(book.works(200).moulds_now().loaves(), [
            (mould, pair(Fraction(118000, 12)), ((at // 5 + 1, ALL),)) for at, mould in enumerate(MOULD_NAMES)])
        self.assert_balanced(book.works(200))

    def test_five_thousand_deeds_of_one_book_for_one_hour(self):
        for hour in [0, 200]:
            book = Book(row_from(ROW_TEXT))
            for number in range(1, 5001):
                self.assertEqual(book.tell(hour, ("juice", KETTLE_NAMES[number % 8], 1, 100)), number)
            self.assertEqual(len(book.done_by(200)), 5000)
            self.assertEqual(book.works(hour).sums()[0][0], (5000, 1))
            self.assertEqual(book.works(hour).sums()[1][1], (500000, 1))
            if hour:
                self.assertEqual(book.done_by(hour - 1), [])

    def test_deeds_at_their_bounds_told_and_done_or_void(self):
        book = Book(row_from(ROW_TEXT))
        deeds = [
            ("juice", KETTLE_NAMES[0], 10 ** 6, 0), ("juice", KETTLE_NAMES[0], 0, 1), ("juice", KETTLE_NAMES[1], 0, 10 ** 6),
            ("ladle", KETTLE_NAMES[1], KETTLE_NAMES[2], (11, 12)), ("ladle", KETTLE_NAMES[1], KETTLE_NAMES[2], (12, 13)),
            ("ladle", KETTLE_NAMES[1], KETTLE_NAMES[2], (FORTY, 1)), ("skim", KETTLE_NAMES[2], (1, 12), (1, 13), KETTLE_NAMES[3]),
            ("skim", KETTLE_NAMES[2], (1, 12), ALL, KETTLE_NAMES[3]),
        ]
        for deed in deeds:
            self.assertIs(is_deed(deed), True)
            book.tell(200, deed)
        self.assertEqual(book.voids(), [(2, 200, "NoRoom"), (5, 200, "NoShare"), (6, 200, "NoShare"), (7, 200, "NoShare")])
        self.assertEqual([number for number, _, _ in book.done_by(200)], [1, 3, 4, 8])
        self.assert_balanced(book.works(200))

    def test_fractions_that_grow_long(self):
        # Shares of twelfths, taken again and again, make fractions longer than Python itself writes.
        book = Book(Row([("pan", 10 ** 6, 0, (1, 2)), ("pot", 10 ** 6, 0, (1, 2))], []))
        book.tell(0, ("juice", "pan", 1, 0))
        for _ in range(4500):
            book.tell(0, ("skim", "pan", (1, 12), (0, 1), "pan"))
        left = Fraction(11, 12) ** 4500
        sugar, _ = book.works(0).kettles_now().juice_of("pan")
        self.assertEqual(Fraction(*sugar), left)
        self.assertGreater(len(frac_text(sugar)), 9000)
        self.assert_balanced(book.works(200))

    def test_six_kinds_and_forty_rounds(self):
        kinds = [(10 ** 6, (11, 12), ((1, 12), (1, 11), (1, 10), (1, 9), (1, 8), (1, 7)))] * 6
        self.assertIs(are_kinds(kinds), True)
        steady = steady_state(kinds)
        self.assertIs(shows_steady(kinds, steady), True)
        amounts = [(FORTY, FORTY - 1), (FORTY - 1, FORTY), (1, FORTY), (FORTY, 1), (0, 1), ALL]
        gap = gap_between(walked_on(kinds, amounts, 40), steady)
        self.assertEqual(rounds_till(kinds, amounts, gap), 40)
        # What was told may be handed in again, whatever its size.
        far = walked_on(kinds, walked_on(kinds, amounts, 40), 40)
        self.assertEqual(walked_on(kinds, walked_on(kinds, walked_on(kinds, amounts, 40), 39), 1), far)

    def test_forty_eight_hours_and_eight_kettles(self):
        day = greatest_day()
        self.assertIs(is_day(day), True)
        many, paper = most_struck(day)
        self.assertEqual((many, binding_places(day)), (40 * 10 ** 6, []))
        self.assertIs(shows_plan(day, most_plan(day)), True)
        self.assertIs(shows_most(day, many, paper), True)
        self.assertEqual([first_hour(day, 10 ** 6 * at) for at in (1, 2, 40, 41)], [8, 9, 47, None])

    def test_a_sheet_of_four_hundred_rows(self):
        rows = [f"at {at % 201} juice {KETTLE_NAMES[at % 8]} 1000 1000" for at in range(351)]
        told = answers("\n".join([ROW_TEXT, *rows, "sums 200"]))
        self.assertEqual(told[:351], [str(number) for number in range(1, 352)])
        self.assertEqual(told[351].split(" ")[0], "351000")
        hours = [f"at {hour} stop {KETTLE_NAMES[0]}" for hour in (0, 200, 201, 9999999)]
        self.assertEqual(answers("\n".join([ROW_TEXT, *hours, "voids", "count"])), ["1", "2", "refused NoHour", "refused NoHour", "2:200:Stopped", "2"])


if __name__ == "__main__":
    unittest.main()
