"""Books: tellings, works of hours, strikes that wait, what is done and what is void, and what is refused."""

import copy
import unittest
from fractions import Fraction

from checks import works_done
from helpers import FORTY, is_tuples_through, juice, refusal, works_told
from kettlerow.book import Book
from kettlerow.juices import NOTHING
from kettlerow.rows import Row
from kettlerow.works import Works
from rowsmade import KETTLES, MOULDS
from spoilt import ODD

NONE, HALF, ALL = (0, 1), (1, 2), (1, 1)
# Sirop gets 40 of sugar and 60 of water at hour 3 and boils 20 off in an hour: its mark is reached at hour 4.
COMES = (3, ("juice", "sirop", 40, 60))
NO_HOURS = [-1, 201, 202, 1000, -200, 10 ** 50, -10 ** 50]


def book_of(*tellings, row=None):
    """A book of the usual row, or of another one, with tellings (hour, deed)."""
    book = Book(row or Row(KETTLES, MOULDS))
    for hour, deed in tellings:
        book.tell(hour, deed)
    return book


def strike(kettle, *pours):
    return ("strike", kettle, pours)


class Checked(unittest.TestCase):
    def assert_list(self, told, awaited):
        """Equal, a list, all in it tuples, texts and plain numbers."""
        self.assertEqual(told, awaited)
        self.assertIs(type(told), list)
        self.assertIs(all(is_tuples_through(part) for part in told), True)

    def assert_done(self, book, hour, awaited):
        """So many deeds are done to an hour: the pairs (number, hour) of them."""
        told = [(number, when) for number, when, _ in book.done_by(hour)]
        self.assert_list(told, awaited)


class Tellings(Checked):
    def test_none(self):
        book = book_of()
        self.assert_list(book.tellings(), [])
        self.assert_list(book.voids(), [])
        for hour in [0, 1, 200]:
            self.assert_list(book.done_by(hour), [])
            self.assert_list(book.waiting(hour), [])
            self.assertEqual(book.works(hour).sums(), ((NONE,) * 6, (NONE,) * 6))

    def test_numbers_as_they_are_told(self):
        book = book_of()
        for number, (hour, deed) in enumerate([COMES, (0, ("stop", "sirop")), (200, ("drain", "cone")), (0, ("stop", "sirop"))], start=1):
            told = book.tell(hour, deed)
            self.assertEqual(told, number)
            self.assertIs(type(told), int)
        self.assert_list(book.tellings(), [(1,) + COMES, (2, 0, ("stop", "sirop")), (3, 200, ("drain", "cone")), (4, 0, ("stop", "sirop"))])

    def test_deeds_are_tuples_all_through(self):
        book = book_of((5, ("strike", "sirop", [("cone", HALF), ("loaf", (1, 3))])), (5, ("strike", "sirop", (("cone", HALF),))))
        self.assert_list(book.tellings(), [(1, 5, strike("sirop", ("cone", HALF), ("loaf", (1, 3)))), (2, 5, strike("sirop", ("cone", HALF)))])

    def test_each_form(self):
        deeds = [
            ("juice", "sirop", 10 ** 6, 0), ("ladle", "a", "b", (FORTY, 1)), ("skim", "a", (-1, 2), (1, FORTY), "b"), ("stop", "zzzzzzzz"),
            ("start", "a"), strike("a", *[("b", (-FORTY, 1))] * 12), ("drain", "vat"), ("knock", "hat"), ("drips", "pot", NONE),
        ]
        book = book_of(*[(at, deed) for at, deed in enumerate(deeds)])
        self.assert_list(book.tellings(), [(at + 1, at, deed) for at, deed in enumerate(deeds)])

    def test_refused_ones_are_not_counted(self):
        book = book_of()
        self.assertEqual(book.tell(1, ("stop", "sirop")), 1)
        self.assertEqual(refusal(book.tell, 201, ("stop", "sirop")), ("NoHour", 201))
        self.assertEqual(refusal(book.tell, 1, ("stop",)), ("BadDeed", ("stop",)))
        self.assertEqual(book.tell(1, ("start", "sirop")), 2)
        self.assert_list(book.tellings(), [(1, 1, ("stop", "sirop")), (2, 1, ("start", "sirop"))])

    def test_what_was_handed_in_may_be_changed_by_its_owner(self):
        pours = [("cone", HALF)]
        book = book_of((3, ("juice", "sirop", 40, 40)), (3, ("strike", "sirop", pours)))
        pours.append(("hat", HALF))
        pours[0] = None
        self.assert_list(book.tellings()[1:], [(2, 3, strike("sirop", ("cone", HALF)))])
        self.assertEqual(book.struck_at(2), 3)

    def test_row_may_be_of_lists(self):
        kettles, moulds = list(KETTLES), list(MOULDS)
        book = book_of(COMES, row=Row(kettles, moulds))
        kettles.clear()
        moulds.clear()
        self.assertEqual(book.works(4).kettles_now().juice_of("sirop"), juice(40, 40))
        self.assertEqual(book.works(4).moulds_now().mould_names(), ["cone", "loaf", "bastard", "tip"])


class Untelling(Checked):
    def test_as_if_it_had_never_been_told(self):
        book = book_of(COMES, (3, ("stop", "sirop")), (4, strike("sirop", ("cone", HALF))))
        self.assertIsNone(book.struck_at(3))
        self.assertIsNone(book.untell(2))
        self.assertEqual(book.struck_at(3), 4)
        self.assert_list(book.tellings(), [(1,) + COMES, (3, 4, strike("sirop", ("cone", HALF)))])
        self.assertEqual(works_told(book.works(4)), works_told(book_of(COMES, (4, strike("sirop", ("cone", HALF)))).works(4)))

    def test_numbers_are_not_given_again(self):
        book = book_of(COMES, COMES)
        book.untell(2)
        self.assertEqual(book.tell(0, ("stop", "sirop")), 3)
        book.untell(3)
        book.untell(1)
        self.assert_list(book.tellings(), [])
        self.assertEqual(book.tell(*COMES), 4)

    def test_refused(self):
        book = book_of(COMES, COMES)
        book.untell(1)
        for number in [1, 0, 3, -1, 10 ** 50]:
            for _ in range(2):
                self.assertEqual(refusal(book.untell, number), ("NoTelling", number))
        self.assert_list(book.tellings(), [(2,) + COMES])


class WorksOfHours(Checked):
    def test_behind_the_deeds_of_the_hour_and_ahead_of_its_boiling(self):
        book = book_of(COMES)
        for hour, water in [(3, 60), (4, 40), (5, 40), (200, 40)]:
            self.assertEqual(book.works(hour).kettles_now().juice_of("sirop"), juice(40, water))
            self.assertEqual(book.works(hour).kettles_now().hour(), hour)
        self.assertEqual(book.works(2).kettles_now().juice_of("sirop"), NOTHING)

    def test_hours_0_and_200(self):
        book = book_of((0, ("juice", "sirop", 40, 60)), (200, ("juice", "sirop", 10, 5)), (200, ("stop", "sirop")))
        self.assertEqual(book.works(0).kettles_now().juice_of("sirop"), juice(40, 60))
        self.assertEqual(book.works(1).kettles_now().juice_of("sirop"), juice(40, 40))
        self.assertEqual(book.works(199).kettles_now().juice_of("sirop"), juice(40, 40))
        self.assertEqual(book.works(200).kettles_now().juice_of("sirop"), juice(50, 45))
        self.assertIs(book.works(200).kettles_now().in_work("sirop"), False)
        self.assert_done(book, 200, [(1, 0), (2, 200), (3, 200)])

    def test_as_works_by_hand(self):
        tellings = [
            (0, ("juice", "grande", 100, 800)), (0, ("stop", "batterie")), (10, ("ladle", "grande", "flambeau", (1, 3))),
            (11, ("skim", "flambeau", (1, 4), HALF, "sirop")), (11, ("juice", "sirop", 20, 60)), (13, strike("sirop", ("cone", HALF))),
            (20, ("drain", "cone")), (21, ("drips", "grande", (1, 3))), (22, ("knock", "cone")), (23, ("start", "batterie")),
        ]
        book = book_of(*tellings)
        works = works_done()
        for hour in range(201):
            for _, deed in [one for one in tellings if one[0] == hour]:
                if deed[0] != "strike":
                    works.do(deed)
            if hour == book.struck_at(6):
                works.do(tellings[5][1])
            if hour < 20:
                self.assertEqual(works_told(book.works(hour)), works_told(works), hour)
            works.boil_on(1)
        self.assertGreater(book.struck_at(6), 12)

    def test_works_are_ones_of_their_own(self):
        book = book_of(COMES)
        works = book.works(3)
        self.assertIs(type(works), Works)
        before = works_told(works)
        works.do(("stop", "sirop"))
        works.boil_on(50)
        works.do(("juice", "grande", 5, 5))
        self.assertEqual(works_told(book.works(3)), before)
        self.assertIsNot(book.works(3), book.works(3))
        self.assertEqual(book.works(4).kettles_now().juice_of("sirop"), juice(40, 40))

    def test_later_tellings_do_not_change_works_told_ahead(self):
        book = book_of(COMES)
        works = book.works(10)
        before = works_told(works)
        book.tell(0, ("juice", "grande", 100, 800))
        self.assertEqual(works_told(works), before)
        self.assertNotEqual(works_told(book.works(10)), before)


class StrikesThatWait(Checked):
    def assert_waits(self, book, number, first, last):
        """A strike waits behind the hours from the first to the last one, and in no others."""
        hours = [hour for hour in range(201) if number in book.waiting(hour)]
        self.assertEqual(hours, list(range(first, last + 1)))

    def test_not_ready(self):
        book = book_of((0, ("juice", "sirop", 20, 100)), (0, strike("sirop", ("cone", ALL))))
        self.assert_waits(book, 2, 0, 3)
        self.assertEqual(book.struck_at(2), 4)
        self.assert_list(book.done_by(200)[1:], [(2, 4, ("strike", 1, (("cone", juice(20, 20)),)))])
        self.assert_list(book.works(4).strikes(), [(1, 4, "sirop", (("cone", juice(20, 20)),))])

    def test_not_ready_in_part_of_an_hour(self):
        book = book_of((0, ("juice", "sirop", 20, 101)), (0, strike("sirop", ("cone", ALL))))
        self.assert_waits(book, 2, 0, 4)
        self.assertEqual(book.struck_at(2), 5)

    def test_empty(self):
        book = book_of((0, strike("sirop", ("cone", ALL))), (7, ("juice", "sirop", 20, 20)))
        # Tried at hour 7 ahead of the tellings of that hour.
        self.assert_waits(book, 1, 0, 7)
        self.assertEqual(book.struck_at(1), 8)

    def test_too_strong(self):
        book = book_of((0, ("juice", "sirop", 40, 20)), (1, strike("sirop", ("cone", (1, 4)))), (6, ("juice", "sirop", 0, 30)))
        self.assert_waits(book, 2, 1, 6)
        # By hour 7 the ten above the mark are boiled off again.
        self.assertEqual(book.struck_at(2), 7)
        self.assertEqual(book.works(7).strikes()[0][3], (("cone", juice(10, 10)),))

    def test_cured(self):
        book = book_of(
            (0, ("juice", "sirop", 40, 40)), (0, strike("sirop", ("cone", (1, 4)))), (1, ("drain", "cone")),
            (1, strike("sirop", ("cone", (1, 4)))), (9, ("knock", "cone")))
        self.assert_waits(book, 4, 1, 9)
        self.assertEqual(book.struck_at(4), 10)

    def test_no_room(self):
        # In the mould is room for 50; what drips and is knocked out makes room.
        book = book_of(
            (0, ("juice", "sirop", 100, 100)), (0, strike("sirop", ("cone", (1, 5)))), (0, strike("sirop", ("cone", (1, 5)))),
            (5, ("drain", "cone")), (6, ("knock", "cone")))
        self.assert_waits(book, 3, 0, 6)
        self.assertEqual(book.struck_at(3), 7)

    def test_no_room_till_it_is_drained_and_knocked_out_in_one_hour(self):
        # Hour by hour the mould is as full as ahead of it, till all is done to it in hour 5.
        tellings = [
            (0, ("juice", "sirop", 100, 100)), (0, strike("sirop", ("cone", (1, 5)))), (0, strike("sirop", ("cone", (1, 5)))),
            (5, ("drain", "cone")), (5, ("knock", "cone"))]
        book = book_of(*tellings)
        self.assert_waits(book, 3, 0, 5)
        self.assertEqual(book.struck_at(3), 6)
        # Filled again in that hour just as it was, it has no room again, and none later.
        book = book_of(*tellings, (5, strike("sirop", ("cone", (1, 4)))))
        self.assertEqual(book.works(4).moulds_now().juice_in("cone"), juice(20, 20))
        self.assertEqual(book.works(5).moulds_now().juice_in("cone"), juice(20, 20))
        self.assert_waits(book, 3, 0, 200)

    def test_no_room_till_the_kettle_has_less(self):
        book = book_of(
            (0, ("juice", "sirop", 100, 100)), (0, strike("sirop", ("cone", HALF))), (4, strike("sirop", ("bastard", (3, 4)))))
        # Struck at hour 4 there are 50 left, half of which there is room for.
        self.assert_waits(book, 2, 0, 4)
        self.assertEqual(book.struck_at(2), 5)
        self.assertEqual(book.works(5).strikes()[1], (2, 5, "sirop", (("cone", juice(Fraction(25, 2), Fraction(25, 2))),)))

    def test_to_the_end(self):
        for tellings in [
            [(0, strike("sirop", ("cone", ALL)))], [(0, ("juice", "sirop", 0, 100)), (0, strike("sirop", ("cone", ALL)))],
            [(0, ("juice", "sirop", 10, 100)), (0, ("stop", "sirop")), (0, strike("sirop", ("cone", ALL)))],
            [(0, ("juice", "sirop", 100, 10)), (0, strike("sirop", ("cone", ALL)))],
            [(0, ("juice", "sirop", 100, 100)), (0, strike("sirop", ("cone", ALL)))],
        ]:
            book = book_of(*tellings)
            number = len(tellings)
            self.assert_waits(book, number, 0, 200)
            self.assertIsNone(book.struck_at(number))
            self.assert_list(book.voids(), [])

    def test_told_for_the_last_hour(self):
        book = book_of((199, ("juice", "sirop", 20, 40)), (200, strike("sirop", ("cone", ALL))), (200, strike("batterie", ("cone", ALL))))
        self.assertEqual(book.struck_at(2), 200)
        self.assertIsNone(book.struck_at(3))
        self.assert_waits(book, 3, 200, 200)

    def test_done_at_the_last_hour(self):
        book = book_of((199, ("juice", "sirop", 20, 40)), (199, strike("sirop", ("cone", ALL))))
        self.assertEqual(book.struck_at(2), 200)
        self.assert_done(book, 200, [(1, 199), (2, 200)])
        book = book_of((199, ("juice", "sirop", 20, 41)), (199, strike("sirop", ("cone", ALL))))
        self.assertIsNone(book.struck_at(2))
        self.assert_list(book.waiting(200), [2])

    def test_not_once_more_in_its_own_hour(self):
        book = book_of((5, strike("sirop", ("cone", ALL))), (5, ("juice", "sirop", 20, 20)))
        self.assert_waits(book, 1, 5, 5)
        self.assertEqual(book.struck_at(1), 6)
        book = book_of((5, ("juice", "sirop", 20, 20)), (5, strike("sirop", ("cone", ALL))))
        self.assertEqual(book.struck_at(2), 5)

    def test_tried_ahead_of_the_tellings_of_the_hour(self):
        # At hour 4 it is ready; what is told for that hour comes behind the strike that waits.
        book = book_of((4, ("ladle", "sirop", "grande", ALL)), (0, ("juice", "sirop", 20, 100)), (0, strike("sirop", ("cone", HALF))))
        self.assertEqual(book.struck_at(3), 4)
        self.assert_done(book, 4, [(2, 0), (3, 4), (1, 4)])

    def test_by_the_hours_for_which_they_are_told_then_by_numbers(self):
        half = ("cone", HALF)
        book = book_of(
            (2, strike("sirop", half)), (1, strike("sirop", half)), (1, strike("sirop", half)), (0, ("juice", "sirop", 16, 96)),
            (0, strike("sirop", half)))
        self.assert_done(book, 200, [(4, 0), (5, 4), (2, 4), (3, 4), (1, 4)])
        self.assertEqual([one[2][2][0][1] for one in book.done_by(200)[1:]], [juice(8, 8), juice(4, 4), juice(2, 2), juice(1, 1)])
        self.assertEqual([one[0] for one in book.works(200).strikes()], [1, 2, 3, 4])

    def test_waiting_rises_by_numbers(self):
        book = book_of(
            (9, strike("sirop", ("cone", ALL))), (3, strike("flambeau", ("cone", ALL))), (5, strike("sirop", ("loaf", ALL))),
            (3, strike("sirop", ("tip", ALL))))
        for hour, awaited in [(2, []), (3, [2, 4]), (5, [2, 3, 4]), (8, [2, 3, 4]), (9, [1, 2, 3, 4]), (200, [1, 2, 3, 4])]:
            self.assert_list(book.waiting(hour), awaited)

    def test_several_in_one_hour_till_the_kettle_is_empty(self):
        book = book_of(
            (0, ("juice", "sirop", 20, 40)), (0, strike("sirop", ("cone", HALF))), (0, strike("sirop", ("cone", ALL))),
            (0, strike("sirop", ("cone", ALL))))
        self.assert_done(book, 200, [(1, 0), (2, 1), (3, 1)])
        self.assert_waits(book, 4, 0, 200)

    def test_one_that_waits_does_not_hold_up_others(self):
        book = book_of(
            (0, ("juice", "sirop", 20, 20)), (0, strike("batterie", ("cone", ALL))), (0, strike("sirop", ("loaf", HALF))),
            (1, strike("sirop", ("loaf", HALF))))
        self.assertEqual([book.struck_at(number) for number in (2, 3, 4)], [None, 0, 1])

    def test_other_deeds_do_not_wait(self):
        for deed, word in [
            (("drain", "cone"), "Empty"), (("knock", "cone"), "Empty"), (("ladle", "sirop", "grande", HALF), "Empty"),
            (("skim", "sirop", HALF, NONE, "sirop"), "Empty"), (("drips", "sirop", HALF), "Empty"), (("juice", "sirop", 300, 1), "NoRoom"),
        ]:
            book = book_of((3, deed), (4, ("juice", "sirop", 10, 10)))
            self.assert_list(book.voids(), [(1, 3, word)])
            self.assert_list(book.waiting(200), [])


class DoneAndVoid(Checked):
    def test_done_by(self):
        book = book_of((7, ("stop", "sirop")), (3, ("juice", "sirop", 40, 60)), (3, ("ladle", "sirop", "grande", (1, 4))), (200, ("start", "sirop")))
        awaited = [(2, 3, ("juice",)), (3, 3, ("ladle", juice(10, 15))), (1, 7, ("stop",)), (4, 200, ("start",))]
        for hour, many in [(0, 0), (2, 0), (3, 2), (6, 2), (7, 3), (199, 3), (200, 4)]:
            self.assert_list(book.done_by(hour), awaited[:many])

    def test_answers_of_each_form(self):
        book = book_of(
            (0, ("juice", "sirop", 100, 100)), (1, ("skim", "sirop", (1, 10), HALF, "grande")), (2, strike("sirop", ("cone", (1, 9)), ("loaf", (1, 6)))),
            (3, ("drain", "cone")), (4, ("knock", "cone")), (5, ("drips", "batterie", HALF)))
        self.assert_list(book.done_by(200), [
            (1, 0, ("juice",)), (2, 1, ("skim", juice(5, 5), juice(5, 5))), (3, 2, ("strike", 1, (("cone", juice(10, 10)), ("loaf", juice(15, 15))))),
            (4, 3, ("drain", juice(Fraction(5, 2), 10))), (5, 4, ("knock", (15, 2), ((1, ALL),))), (6, 5, ("drips", juice(Fraction(5, 4), 5))),
        ])

    def test_voids_as_they_come_in_the_account(self):
        book = book_of(
            (9, ("stop", "pot")), (0, ("start", "sirop")), (4, ("ladle", "sirop", "sirop", HALF)), (4, ("drain", "hat")),
            (4, ("drips", "sirop", (0, 1))), (9, ("knock", "cone")), (5, ("juice", "sirop", 10 ** 6, 1)), (9, strike("pot", ("cone", ALL))),
            (6, ("stop", "sirop")), (7, ("stop", "sirop")), (200, strike("sirop", ("hat", HALF))))
        self.assert_list(book.voids(), [
            (2, 0, "InWork"), (3, 4, "Same"), (4, 4, "NoMould"), (5, 4, "NoShare"), (7, 5, "NoRoom"), (10, 7, "Stopped"), (1, 9, "NoKettle"),
            (6, 9, "Empty"), (8, 9, "NoKettle"), (11, 200, "NoMould")])

    def test_strikes_that_are_void(self):
        for deed, word in [
            (strike("pot", ("cone", HALF)), "NoKettle"), (strike("sirop", ("hat", HALF)), "NoMould"), (strike("sirop", ("cone", (1, 13))), "NoShare"),
            (strike("sirop", ("cone", NONE)), "NoShare"), (strike("sirop", ("cone", ALL), ("loaf", HALF)), "NoShare"),
        ]:
            for tellings in [[(3, deed)], [(0, ("juice", "sirop", 10, 10)), (3, deed)]]:
                book = book_of(*tellings)
                self.assert_list(book.voids(), [(len(tellings), 3, word)])
                self.assert_list(book.waiting(3), [])
                self.assert_list(book.waiting(200), [])
                self.assertIsNone(book.struck_at(len(tellings)))

    def test_not_cured_and_cured_of_other_deeds(self):
        book = book_of(
            (0, ("juice", "sirop", 20, 20)), (0, strike("sirop", ("cone", HALF))), (1, ("knock", "cone")), (2, ("drain", "cone")), (3, ("drain", "cone")))
        self.assert_list(book.voids(), [(3, 1, "NotCured"), (5, 3, "Cured")])

    def test_void_ones_change_nothing(self):
        plain = book_of(COMES, (8, strike("sirop", ("cone", HALF))))
        book = book_of(COMES, (8, strike("sirop", ("cone", HALF))), (3, ("start", "sirop")), (8, ("juice", "sirop", 300, 300)), (9, ("drain", "tip")))
        for hour in [3, 8, 9, 200]:
            self.assertEqual(works_told(book.works(hour)), works_told(plain.works(hour)))
            self.assertEqual(book.done_by(hour), plain.done_by(hour))

    def test_a_void_one_may_be_told_again_for_another_hour(self):
        book = book_of((3, ("drain", "cone")), (0, ("juice", "sirop", 20, 20)), (0, strike("sirop", ("cone", HALF))))
        self.assert_list(book.voids(), [])
        book.untell(1)
        book.tell(0, ("knock", "cone"))
        self.assert_list(book.voids(), [(4, 0, "NotCured")])


class StruckAt(Checked):
    def test_ordinary(self):
        book = book_of((0, ("juice", "sirop", 20, 100)), (0, strike("sirop", ("cone", HALF))), (10, strike("sirop", ("cone", HALF))))
        self.assertEqual(book.struck_at(2), 4)
        self.assertEqual(book.struck_at(3), 10)
        self.assertIs(type(book.struck_at(2)), int)

    def test_at_hour_0(self):
        book = book_of((0, ("juice", "sirop", 20, 20)), (0, strike("sirop", ("cone", HALF))))
        self.assertEqual(book.struck_at(2), 0)

    def test_refused(self):
        book = book_of(COMES, (4, strike("sirop", ("cone", HALF))), (5, ("drain", "cone")))
        for number in [1, 3, 0, 4, -1, 10 ** 50]:
            self.assertEqual(refusal(book.struck_at, number), ("NoTelling", number))
        book.untell(2)
        self.assertEqual(refusal(book.struck_at, 2), ("NoTelling", 2))
        self.assertEqual(refusal(Book(Row(KETTLES, MOULDS)).struck_at, 1), ("NoTelling", 1))

    def test_a_void_one(self):
        book = book_of((4, strike("pot", ("cone", HALF))))
        self.assertIsNone(book.struck_at(1))

    def test_just_as_the_kettle_is_ready(self):
        # A strike that waits for its kettle alone is done at the first whole hour from which it is ready on.
        for sugar in range(1, 60, 7):
            for water in range(0, 240, 17):
                book = book_of((2, ("juice", "sirop", sugar, water)), (2, strike("sirop", ("bastard", ALL))))
                when = book.works(2).kettles_now().ready_at("sirop")
                if water < sugar:
                    self.assertIsNone(book.struck_at(2))
                else:
                    self.assertEqual(book.struck_at(2), -(-when[0] // when[1]))


class Refused(Checked):
    def assert_refused(self, awaited, call, *arguments):
        told = refusal(call, *arguments)
        self.assertEqual(told, awaited)
        self.assertIs(type(told[1]), type(awaited[1]))

    def test_hours(self):
        book = book_of(COMES)
        for hour in NO_HOURS:
            for _ in range(2):
                self.assert_refused(("NoHour", hour), book.tell, hour, ("stop", "sirop"))
                self.assert_refused(("NoHour", hour), book.works, hour)
                self.assert_refused(("NoHour", hour), book.done_by, hour)
                self.assert_refused(("NoHour", hour), book.waiting, hour)
        self.assert_list(book.tellings(), [(1,) + COMES])

    def test_deeds(self):
        book = book_of(COMES)
        before = works_told(book.works(200))
        for deed in ODD + [
            ("stop",), ("stop", "Sirop"), ["stop", "sirop"], ("juice", "sirop", 0, 0), ("juice", "sirop", True, 1), ("juice", "sirop", 10 ** 6 + 1, 0),
            ("strike", "sirop", []), ("strike", "sirop", [("cone", HALF)] * 13), ("strike", "sirop", [["cone", HALF]]), ("ladle", "a", "b", (2, 4)),
            ("skim", "a", HALF, 0, "b"), ("drips", "a", (1, FORTY + 1)), ("drain", "cone", "cone"), ("boil", "sirop"), [[[[[["stop"]]]]]],
        ]:
            for hour in [0, 3, 200]:
                self.assert_refused(("BadDeed", deed), book.tell, hour, deed)
        self.assert_list(book.tellings(), [(1,) + COMES])
        self.assertEqual(works_told(book.works(200)), before)

    def test_no_hour_goes_first(self):
        book = book_of()
        for hour in NO_HOURS:
            self.assert_refused(("NoHour", hour), book.tell, hour, ("stop",))
            self.assert_refused(("NoHour", hour), book.tell, hour, None)

    def test_what_is_told_with_it_is_the_askers_own(self):
        book = book_of()
        deed = ["stop", ["sirop", (HALF, [7])]]
        kept = copy.deepcopy(deed)
        errors = []
        for _ in range(2):
            try:
                book.tell(0, deed)
            except ValueError as error:
                errors.append(error)
        errors[0].what[1].append("spoilt")
        self.assertEqual(errors[1].what, kept)
        self.assertEqual(deed, kept)
        deed[1][1][1].append(8)
        self.assertEqual(errors[1].what, kept)

    def test_deeds_that_works_would_refuse_are_told(self):
        book = book_of()
        for number, deed in enumerate([
            ("stop", "pot"), ("ladle", "a", "a", NONE), strike("pot", ("hat", (-1, 2))), ("drips", "a", (FORTY, 1)), ("juice", "pot", 10 ** 6, 10 ** 6),
        ], start=1):
            self.assertEqual(book.tell(200, deed), number)

    def test_behind_refusals_all_is_as_ahead_of_them(self):
        book = book_of(COMES, (3, strike("sirop", ("cone", HALF))), (8, ("drain", "cone")))
        before = (book.tellings(), book.voids(), book.done_by(200), book.waiting(3), works_told(book.works(200)))
        for call, arguments in [
            (book.tell, (201, ("stop", "sirop"))), (book.tell, (3, ("stop",))), (book.untell, (9,)), (book.untell, (0,)), (book.struck_at, (1,)),
            (book.works, (201,)), (book.done_by, (-1,)), (book.waiting, (10 ** 9,)),
        ]:
            self.assertIsNotNone(refusal(call, *arguments))
            self.assertEqual((book.tellings(), book.voids(), book.done_by(200), book.waiting(3), works_told(book.works(200))), before)
        self.assertEqual(book.tell(0, ("stop", "sirop")), 4)


if __name__ == "__main__":
    unittest.main()
