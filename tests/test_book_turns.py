"""Books over many tellings: beside a model, told late or in time, asked between, by turns, likes, the greatest."""

import unittest
from fractions import Fraction

from bookmodel import WAITS, BookModel, asked, book_told, tellings_by
from helpers import Turns, refusal, told_or_refused, works_told
from kettlerow.book import Book
from kettlerow.juices import strength_of
from kettlerow.rows import Row
from kettlerow.works import Works
from rowsmade import GREATEST_KETTLES, GREATEST_MOULDS, KETTLES, MOULDS

SMALL_KETTLES = [("a", 60, 9, (1, 3)), ("b", 50, 4, (1, 2)), ("c", 40, 7, (3, 5))]
SMALL_MOULDS = [("d", 6, (1, 2)), ("e", 15, (0, 1)), ("f", 9, (7, 12))]
ROWS = [(KETTLES, MOULDS, 400), (SMALL_KETTLES, SMALL_MOULDS, 40), ([("a", 90, 5, (1, 2))], [("b", 60, (1, 3))], 60)]
SOME_HOURS = (0, 1, 2, 5, 17, 60, 100, 150, 199, 200)


def book_of(row, tellings=()):
    book = Book(Row(row[0], row[1]))
    for hour, deed in tellings:
        book.tell(hour, deed)
    return book


def model_of(row, tellings=()):
    model = BookModel(row[0], row[1])
    for hour, deed in tellings:
        model.on_tell(hour, deed)
    return model


def told(book):
    return book_told(book, works_told)


def without_numbers(book):
    """All that a book tells but its tellings, each number being the place of its telling among those of its hour."""
    places = {}
    counts = {}
    for number, hour, _ in book.tellings():
        places[number] = (hour, counts.get(hour, 0))
        counts[hour] = counts.get(hour, 0) + 1
    return (
        [(places[number], hour, word) for number, hour, word in book.voids()],
        [(places[number], hour, answer) for number, hour, answer in book.done_by(200)],
        [sorted(places[number] for number in book.waiting(hour)) for hour in range(201)],
        sorted((places[number], book.struck_at(number)) for number, _, deed in book.tellings() if deed[0] == "strike"),
        [works_told(book.works(hour)) for hour in SOME_HOURS])


def shuffled_hours(turns, tellings):
    """The same deeds for the same hours, those of one hour in the same order, but told in another one."""
    by_hour = {}
    for hour, deed in tellings:
        by_hour.setdefault(hour, []).append(deed)
    late = []
    while by_hour:
        hour = turns.one_of(sorted(by_hour))
        late.append((hour, by_hour[hour].pop(0)))
        if not by_hour[hour]:
            del by_hour[hour]
    return late


def by_hand(row, tellings):
    """What is done, void and waiting of tellings, each strike that waits tried in each hour by Works."""
    works = Works(Row(row[0], row[1]))
    done, voids, waiting, waits = [], [], [], []
    for hour in range(201):
        tried = waits + [(number, deed) for number, (when, deed) in enumerate(tellings, start=1) if when == hour]
        waits = []
        for number, deed in tried:
            word, answer = told_or_refused(works.do, deed)
            if word == "told":
                done.append((number, hour, answer))
            elif deed[0] == "strike" and word in WAITS:
                waits.append((number, deed))
            else:
                voids.append((number, hour, word))
        waiting.append(sorted(number for number, _ in waits))
        if hour < 200:
            works.boil_on(1)
    return done, voids, waiting, works


class AgainstTheModel(unittest.TestCase):
    def assert_as_reckoned(self, book, model, hours=SOME_HOURS):
        for call in [("tellings",), ("voids",), ("done_by", 200), *[("waiting", hour) for hour in range(201)]]:
            self.assertEqual(asked(book, call), model.attempt(*call), call)
        for hour in hours:
            self.assertEqual(works_told(book.works(hour)), model.works_told(hour), hour)
            self.assertEqual(asked(book, ("done_by", hour)), model.on_done_by(hour))
        for number in range(0, model.given + 2):
            self.assertEqual(asked(book, ("struck_at", number)), model.on_struck_at(number))

    def test_each_row(self):
        seen = {}
        for at, row in enumerate(ROWS):
            for seed in range(8):
                tellings = tellings_by(Turns(74 + 100 * at + seed), row, 60)
                book, model = book_of(row, tellings), model_of(row, tellings)
                self.assert_as_reckoned(book, model)
                for number, hour, word in book.voids():
                    seen[word] = seen.get(word, 0) + 1
                for number, hour, answer in book.done_by(200):
                    late = answer[0] == "strike" and hour > model.told[number][0]
                    seen["late" if late else answer[0]] = seen.get("late" if late else answer[0], 0) + 1
                seen["waits"] = seen.get("waits", 0) + len(book.waiting(200))
        for word in ["NoKettle", "NoMould", "NoShare", "Empty", "Cured", "NoRoom", "juice", "ladle", "strike", "drain", "knock", "late", "waits"]:
            self.assertGreater(seen[word], 3, word)

    def test_every_hour(self):
        tellings = tellings_by(Turns(72), ROWS[1], 120)
        self.assert_as_reckoned(book_of(ROWS[1], tellings), model_of(ROWS[1], tellings), range(201))

    def test_strikes_that_wait_on_moulds(self):
        # The kettle is ready all along; the moulds are full or cured, and made free again from hour to hour.
        done = 0
        for seed in range(12):
            turns = Turns(730 + seed)
            tellings = [(0, ("juice", "a", 30, 30)), (turns.between(0, 90), ("juice", "a", 20, 20))]
            for _ in range(60):
                mould = turns.one_of(["d", "e", "f"])
                word = turns.one_of(["strike", "strike", "drain", "knock"])
                deed = (word, mould)
                if word == "strike":
                    deed = ("strike", "a", [(turns.one_of(["d", "e", "f"]), (1, turns.between(2, 12))) for _ in range(turns.between(1, 3))])
                tellings.append((turns.between(0, 150), deed))
            row = ([("a", 60, 9, (1, 2))], SMALL_MOULDS)
            book, model = book_of(row, tellings), model_of(row, tellings)
            self.assert_as_reckoned(book, model)
            done += sum(1 for number, hour, _ in book.done_by(200) if hour > model.told[number][0])
        self.assertGreater(done, 40)

    def test_told_untold_and_asked_between(self):
        for at, row in enumerate(ROWS):
            turns = Turns(760 + at)
            book, model = book_of(row), model_of(row)
            for hour, deed in tellings_by(turns, row, 70):
                calls = [("tell", hour, deed)]
                if turns.below(4) == 0:
                    calls.append(("untell", turns.between(0, model.given + 1)))
                calls.append(turns.one_of([
                    ("voids",), ("waiting", turns.between(0, 201)), ("done_by", turns.between(0, 201)), ("tellings",),
                    ("struck_at", turns.between(0, model.given + 1)), ("struck_at", turns.between(0, model.given + 1)),
                ]))
                for call in calls:
                    self.assertEqual(asked(book, call), model.attempt(*call), call)
                hour = turns.between(0, 200)
                self.assertEqual(works_told(book.works(hour)), model.works_told(hour))
            self.assert_as_reckoned(book, model)


class LateOrInTime(unittest.TestCase):
    def test_the_same_but_for_numbers(self):
        for at, row in enumerate(ROWS):
            for seed in range(5):
                turns = Turns(90 + 10 * at + seed)
                tellings = tellings_by(turns, row, 60)
                in_time = sorted(tellings, key=lambda one: one[0])
                books = [book_of(row, in_time), book_of(row, tellings), book_of(row, shuffled_hours(turns, tellings))]
                self.assertEqual(without_numbers(books[1]), without_numbers(books[0]))
                self.assertEqual(without_numbers(books[2]), without_numbers(books[0]))

    def test_asked_between_or_not(self):
        turns = Turns(95)
        tellings = tellings_by(turns, ROWS[1], 60)
        between, plain = book_of(ROWS[1]), book_of(ROWS[1], tellings)
        for hour, deed in tellings:
            between.tell(hour, deed)
            between.voids()
            between.works(turns.between(0, 200))
        self.assertEqual(told(between), told(plain))

    def test_told_and_taken_back(self):
        for at, row in enumerate(ROWS):
            turns = Turns(96 + at)
            tellings = tellings_by(turns, row, 40)
            others = tellings_by(turns, row, 40)
            book, numbers = book_of(row), []
            for (hour, deed), (when, other) in zip(tellings, others):
                book.tell(hour, deed)
                numbers.append(book.tell(when, other))
                if turns.below(3) == 0:
                    book.works(turns.between(0, 200))
            for number in reversed(numbers):
                book.untell(number)
                if turns.below(5) == 0:
                    book.voids()
            self.assertEqual(without_numbers(book), without_numbers(book_of(row, tellings)))

    def test_later_tellings_change_nothing_ahead(self):
        turns = Turns(99)
        tellings = sorted(tellings_by(turns, ROWS[1], 60), key=lambda one: one[0])
        whole = book_of(ROWS[1], tellings)
        for hour in [0, 3, 20, 80, 150]:
            begun = book_of(ROWS[1], [one for one in tellings if one[0] <= hour])
            self.assertEqual(works_told(begun.works(hour)), works_told(whole.works(hour)))
            self.assertEqual(begun.done_by(hour), whole.done_by(hour))
            self.assertEqual(begun.waiting(hour), whole.waiting(hour))


class EachInItsHour(unittest.TestCase):
    def test_done_in_its_own_hour_or_void_a_strike_alone_later(self):
        for at, row in enumerate(ROWS):
            for seed in range(5):
                book = book_of(row, tellings_by(Turns(180 + 10 * at + seed), row, 80))
                done = {number: hour for number, hour, _ in book.done_by(200)}
                void = {number: (hour, word) for number, hour, word in book.voids()}
                waiting = book.waiting(200)
                self.assertEqual(set(done) & set(void) | set(done) & set(waiting) | set(void) & set(waiting), set())
                for number, hour, deed in book.tellings():
                    self.assertIn(number, [*done, *void, *waiting])
                    if number in void:
                        self.assertEqual(void[number][0], hour)
                        self.assertIs(deed[0] == "strike" and void[number][1] in WAITS, False)
                    elif deed[0] != "strike":
                        self.assertEqual(done[number], hour)
                    else:
                        self.assertEqual(book.struck_at(number), done.get(number))
                        behind = done.get(number, 201)
                        self.assertEqual([when for when in range(201) if number in book.waiting(when)], list(range(hour, behind)))

    def test_every_strike_has_its_mark_and_nothing_is_anywhere_else(self):
        for at, row in enumerate(ROWS):
            marks = {name: mark for name, _, _, mark in row[0]}
            book = book_of(row, tellings_by(Turns(190 + at), row, 120))
            strikes = book.works(200).strikes()
            self.assertGreater(len(strikes), 3)
            for _, _, kettle, filled in strikes:
                self.assertEqual({strength_of(juice) for _, juice in filled}, {marks[kettle]})
            for hour in range(0, 201, 7):
                for first, *others in book.works(hour).sums():
                    self.assertEqual(sum(Fraction(*part) for part in others), Fraction(*first))


class StopsThatMoveStrikes(unittest.TestCase):
    def test_out_of_work_from_hour_to_hour(self):
        # Ready at hour 14 if it is in work all along; each hour out of work ahead of that moves the strike by one.
        row = ([("pan", 10 ** 4, 10, (1, 2))], [("cone", 10 ** 4, (0, 1))])
        for first in range(0, 18):
            for last in range(first, 24):
                book = book_of(row, [
                    (0, ("juice", "pan", 10, 150)), (first, ("stop", "pan")), (last, ("start", "pan")), (0, ("strike", "pan", [("cone", (1, 1))]))])
                awaited = 14 if first >= 14 else 14 + last - first
                self.assertEqual(book.struck_at(4), awaited, (first, last))
                self.assertEqual(book.waiting(awaited - 1), [4])
                self.assertEqual(book.waiting(awaited), [])

    def test_never_started_again(self):
        row = ([("pan", 10 ** 4, 10, (1, 2))], [("cone", 10 ** 4, (0, 1))])
        book = book_of(row, [(0, ("juice", "pan", 10, 150)), (13, ("stop", "pan")), (0, ("strike", "pan", [("cone", (1, 1))]))])
        self.assertIsNone(book.struck_at(3))
        book.untell(2)
        self.assertEqual(book.struck_at(3), 14)
        book.tell(14, ("stop", "pan"))
        self.assertEqual(book.struck_at(3), 14)

    def test_told_late_it_moves_what_was_told_ahead(self):
        row = ([("pan", 10 ** 4, 10, (1, 2)), ("pot", 10 ** 4, 5, (1, 2))], [("cone", 10 ** 4, (1, 2))])
        book = book_of(row, [
            (0, ("juice", "pan", 20, 60)), (0, ("strike", "pan", [("cone", (1, 1))])), (6, ("drain", "cone")), (7, ("knock", "cone")),
            (8, ("drips", "pot", (1, 1)))])
        self.assertEqual((book.struck_at(2), book.voids()), (4, []))
        self.assertEqual(book.works(8).kettles_now().juice_of("pot"), ((10, 1), (20, 1)))
        book.tell(1, ("stop", "pan"))
        book.tell(4, ("start", "pan"))
        self.assertEqual((book.struck_at(2), book.voids()), (7, [(3, 6, "Empty"), (4, 7, "NotCured"), (5, 8, "Empty")]))
        book.untell(6)
        self.assertEqual((book.struck_at(2), book.voids()), (4, [(7, 4, "InWork")]))

    def test_stops_by_turns_move_no_strike_ahead(self):
        row = ROWS[2]
        for seed in range(20):
            turns = Turns(910 + seed)
            deeds = [(0, ("juice", "a", 10, turns.between(20, 60))), (0, ("strike", "a", [("b", (1, 2))])), (0, ("strike", "a", [("b", (1, 1))]))]
            plain = book_of(row, deeds)
            hour = turns.between(0, 12)
            book = book_of(row, deeds + [(hour, ("stop", "a")), (hour + turns.between(0, 9), ("start", "a"))])
            for number in [2, 3]:
                self.assertGreaterEqual(book.struck_at(number), plain.struck_at(number))
                if plain.struck_at(number) <= hour:
                    self.assertEqual(book.struck_at(number), plain.struck_at(number))


class AMouldThroughABook(unittest.TestCase):
    def test_bears_the_strikes_by_the_shares_of_its_sugar(self):
        row = ([("pan", 1000, 10, (1, 2)), ("pot", 1000, 10, (2, 3))], [("cone", 100, (1, 4)), ("loaf", 100, (0, 1))])
        book = book_of(row, [
            (0, ("juice", "pan", 30, 30)), (0, ("juice", "pot", 40, 20)), (0, ("strike", "pan", [("cone", (1, 3))])),
            (1, ("strike", "pot", [("cone", (1, 2)), ("loaf", (1, 4))])), (2, ("strike", "pan", [("cone", (1, 2)), ("cone", (1, 4))])),
            (3, ("drain", "cone")), (4, ("strike", "pan", [("cone", (1, 1))])), (5, ("knock", "cone")), (9, ("drain", "cone")), (9, ("knock", "cone")),
        ])
        whole = Fraction(10) + 20 + 15
        bears = tuple((strike, ((sugar / whole).numerator, (sugar / whole).denominator)) for strike, sugar in [(1, Fraction(10)), (2, Fraction(20)), (3, Fraction(15))])
        self.assertEqual(book.works(0).moulds_now().bears("cone"), ((1, (1, 1)),))
        self.assertEqual(book.works(1).moulds_now().bears("cone"), ((1, (1, 3)), (2, (2, 3))))
        for hour in [2, 3, 4]:
            self.assertEqual(book.works(hour).moulds_now().bears("cone"), bears)
        self.assertEqual(book.works(5).moulds_now().bears("cone"), ())
        # The strike told for hour 4 waits till the mould is knocked out, and is in it alone then.
        self.assertEqual(book.struck_at(7), 6)
        self.assertEqual(book.works(6).moulds_now().bears("cone"), ((4, (1, 1)),))
        self.assertEqual(book.works(200).moulds_now().bears("loaf"), ((2, (1, 1)),))
        self.assertEqual(book.works(8).moulds_now().loaves(), [("cone", (135, 4), bears)])
        self.assertEqual(book.works(200).moulds_now().loaves(), [("cone", (135, 4), bears), ("cone", (15, 4), ((4, (1, 1)),))])

    def test_what_each_bears_was_poured_into_it(self):
        for at, row in enumerate(ROWS):
            book = book_of(row, tellings_by(Turns(990 + at), row, 150))
            deeds = {number: deed for number, _, deed in book.tellings()}
            poured = {name: {} for name, _, _ in row[1]}
            loaves = []
            for hour in range(201):
                for number, _, answer in [one for one in book.done_by(hour) if one[1] == hour]:
                    if answer[0] == "strike":
                        for name, (sugar, _) in answer[2]:
                            poured[name][answer[1]] = poured[name].get(answer[1], 0) + Fraction(*sugar)
                    elif answer[0] == "knock":
                        loaves.append((deeds[number][1], poured[deeds[number][1]]))
                        poured[deeds[number][1]] = {}
                moulds = book.works(hour).moulds_now()
                for name in poured:
                    self.assert_bears(moulds.bears(name), poured[name])
                self.assertEqual([name for name, _, _ in moulds.loaves()], [name for name, _ in loaves])
                for (_, _, bears), (_, sugars) in zip(moulds.loaves(), loaves):
                    self.assert_bears(bears, sugars)

    def assert_bears(self, told_shares, sugars):
        whole = sum(sugars.values())
        awaited = [(strike, sugars[strike] / whole) for strike in sorted(sugars)]
        self.assertEqual([(strike, Fraction(*share)) for strike, share in told_shares], awaited)


class AskedAgainAndShared(unittest.TestCase):
    def test_told_the_same_each_time(self):
        book = book_of(ROWS[1], tellings_by(Turns(960), ROWS[1], 60))
        first = told(book)
        for _ in range(2):
            self.assertEqual(told(book), first)

    def test_asking_changes_nothing(self):
        tellings = tellings_by(Turns(961), ROWS[1], 50)
        asked_one, unasked = book_of(ROWS[1]), book_of(ROWS[1])
        for hour, deed in tellings:
            told(asked_one)
            self.assertEqual(asked_one.tell(hour, deed), unasked.tell(hour, deed))
        self.assertEqual(told(asked_one), told(unasked))

    def test_lists_are_the_askers_own(self):
        book = book_of(ROWS[1], tellings_by(Turns(962), ROWS[1], 60))
        for tell in [book.tellings, book.voids, lambda: book.done_by(200), lambda: book.waiting(200), lambda: book.works(200).strikes()]:
            first = tell()
            kept = list(first)
            self.assertGreater(len(kept), 0)
            self.assertIsNot(tell(), first)
            first.clear()
            self.assertEqual(tell(), kept)
            first.extend([None, "spoilt"])
            self.assertEqual(tell(), kept)

    def test_works_are_shared_with_nothing(self):
        book = book_of(ROWS[1], tellings_by(Turns(963), ROWS[1], 60))
        before = told(book)
        for hour in SOME_HOURS:
            works = book.works(hour)
            works.boil_on(100)
            refusal(works.do, ("juice", "a", 1, 1))
            refusal(works.do, ("stop", "b"))
            works.kettles_now().boil_on(7)
            works.moulds_now().loaves().append(None)
            works.strikes().clear()
        self.assertEqual(told(book), before)


class Likes(unittest.TestCase):
    def test_a_like_tells_the_same(self):
        for at, row in enumerate(ROWS):
            book = book_of(row, tellings_by(Turns(970 + at), row, 50))
            book.untell(50)
            book.untell(7)
            for like in [book.like(), book.like().like()]:
                self.assertIs(type(like), Book)
                self.assertIsNot(like, book)
                self.assertEqual(told(like), told(book))
                self.assertEqual(like.tell(3, ("stop", "a")), 51)
            self.assertEqual(book.tell(3, ("stop", "a")), 51)

    def test_what_is_told_one_is_not_told_the_other(self):
        for asks_first in [True, False]:
            turns = Turns(973)
            book = book_of(ROWS[1], tellings_by(turns, ROWS[1], 40))
            plain = book_of(ROWS[1], tellings_by(Turns(973), ROWS[1], 40))
            if asks_first:
                told(book)
            like = book.like()
            for hour, deed in tellings_by(turns, ROWS[1], 20):
                like.tell(hour, deed)
                like.works(turns.between(0, 200))
            like.untell(1)
            self.assertEqual(told(book), told(plain))
            before = told(like)
            book.tell(0, ("juice", "a", 5, 5))
            book.untell(2)
            self.assertEqual(told(like), before)

    def test_the_same_told_to_both(self):
        turns = Turns(974)
        book = book_of(ROWS[1], tellings_by(turns, ROWS[1], 30))
        like = book.like()
        for hour, deed in tellings_by(turns, ROWS[1], 30):
            self.assertEqual(like.tell(hour, deed), book.tell(hour, deed))
        self.assertEqual(told(like), told(book))


class ByTurns(unittest.TestCase):
    def test_books_of_two_rows(self):
        one, other = book_of(ROWS[0]), book_of(ROWS[1])
        first, second = model_of(ROWS[0]), model_of(ROWS[1])
        turns = Turns(790)
        for told_one, told_other in zip(tellings_by(Turns(791), ROWS[0], 40), tellings_by(Turns(792), ROWS[1], 40)):
            for book, model, telling in [(one, first, told_one), (other, second, told_other)]:
                calls = [("tell", *telling), ("waiting", turns.between(0, 200)), ("struck_at", turns.between(1, 40))]
                for call in calls:
                    self.assertEqual(asked(book, call), model.attempt(*call))
        for book, model in [(one, first), (other, second)]:
            self.assertEqual(asked(book, ("voids",)), model.on_voids())
            self.assertEqual(works_told(book.works(200)), model.works_told(200))

    def test_two_books_of_one_row(self):
        row = Row(SMALL_KETTLES, SMALL_MOULDS)
        one, other, idle = Book(row), Book(row), Book(row)
        for telling, then in zip(tellings_by(Turns(793), ROWS[1], 50), tellings_by(Turns(794), ROWS[1], 50)):
            self.assertEqual(one.tell(*telling), other.tell(*then))
            one.works(100)
            other.voids()
        self.assertEqual(told(one), told(book_of(ROWS[1], tellings_by(Turns(793), ROWS[1], 50))))
        self.assertEqual(told(other), told(book_of(ROWS[1], tellings_by(Turns(794), ROWS[1], 50))))
        self.assertEqual(told(idle), told(book_of(ROWS[1])))


class RefusedAnywhere(unittest.TestCase):
    def test_then_all_asked(self):
        # Everywhere among the tellings something is refused; all that is asked then is as without it.
        for at, row in enumerate(ROWS):
            turns = Turns(980 + at)
            tellings = tellings_by(turns, row, 60)
            plain, book = book_of(row), book_of(row)
            for hour, deed in tellings:
                for call in [
                    ("tell", 201, deed), ("tell", -1, deed), ("tell", hour, list(deed)), ("tell", hour, deed[:1]), ("untell", 0), ("untell", 10 ** 9),
                    ("works", 201), ("waiting", -1), ("done_by", 10 ** 9), ("struck_at", 0),
                ]:
                    if turns.below(3) == 0:
                        self.assertNotEqual(asked(book, call)[0], "told", call)
                self.assertEqual(book.tell(hour, deed), plain.tell(hour, deed))
            self.assertEqual(told(book), told(plain))

    def test_what_works_refuse_by_hand_is_void_or_waits(self):
        for at, row in enumerate(ROWS):
            for many in [60, 400]:
                tellings = tellings_by(Turns(985 + at), row, many)
                book = book_of(row, tellings)
                done, voids, waiting, works = by_hand(row, tellings)
                self.assertEqual(book.done_by(200), done)
                self.assertEqual(book.voids(), voids)
                self.assertEqual([book.waiting(hour) for hour in range(201)], waiting)
                self.assertEqual(works_told(book.works(200)), works_told(works))


class TheGreatest(unittest.TestCase):
    def test_five_thousand_tellings(self):
        made = [(name, 10 ** 6, fire, mark) for (name, _, _, _), fire, mark in zip(
            GREATEST_KETTLES, [900, 10 ** 4, 5000, 70, 2500, 8000, 10 ** 4, 400],
            [(1, 60), (59, 60), (1, 2), (7, 53), (3, 4), (1, 3), (2, 5), (8, 9)])]
        row = (made, GREATEST_MOULDS, 10 ** 6)
        tellings = tellings_by(Turns(78), row, 5000)
        book = book_of(row, tellings)
        late = book_of(row, shuffled_hours(Turns(780), tellings))
        self.assertEqual(without_numbers(book), without_numbers(late))
        self.assertEqual([number for number, _, _ in book.tellings()], list(range(1, 5001)))
        self.assertGreater(len(book.works(200).strikes()), 40)
        for first, *others in book.works(200).sums():
            self.assertEqual(sum(Fraction(*part) for part in others), Fraction(*first))
        self.assertEqual(len(book.voids()) + len(book.done_by(200)) + len(book.waiting(200)), 5000)

    def test_as_by_hand(self):
        row = (GREATEST_KETTLES, GREATEST_MOULDS, 10 ** 5)
        tellings = tellings_by(Turns(781), row, 1500)
        book = book_of(row, tellings)
        done, voids, waiting, works = by_hand(row, tellings)
        self.assertEqual((book.done_by(200), book.voids()), (done, voids))
        self.assertEqual([book.waiting(hour) for hour in range(201)], waiting)
        self.assertEqual(works_told(book.works(200)), works_told(works))

    def test_thousands_of_strikes_that_wait(self):
        row = (GREATEST_KETTLES, [(name, 10, drip) for name, _, drip in GREATEST_MOULDS])
        tellings = [(0, ("juice", name, 59 * 10 ** 3, 41 * 10 ** 3)) for name, _, _, _ in GREATEST_KETTLES]
        pours = [(name, (1, 12)) for name, _, _ in GREATEST_MOULDS[:12]]
        tellings += [(at // 25, ("strike", GREATEST_KETTLES[at % 8][0], pours)) for at in range(4990)]
        book = book_of(row, tellings)
        self.assertEqual(book.waiting(200), list(range(9, 4999)))
        self.assertEqual(book.done_by(200), [(number, 0, ("juice",)) for number in range(1, 9)])
        self.assertEqual(book.voids(), [])
        self.assertIsNone(book.struck_at(4998))

    def test_a_strike_for_each_mould_and_hour(self):
        row = ([("pan", 10 ** 6, 10 ** 4, (1, 2))], GREATEST_MOULDS)
        tellings = []
        for hour in range(201):
            tellings.append((hour, ("juice", "pan", 12, 12)))
            tellings.append((hour, ("strike", "pan", [(name, (1, 12)) for name, _, _ in GREATEST_MOULDS[:12]])))
        book = book_of(row, tellings)
        self.assertEqual([book.struck_at(2 * hour + 2) for hour in range(201)], list(range(201)))
        bears = book.works(200).moulds_now().bears(GREATEST_MOULDS[0][0])
        self.assertEqual(bears, tuple((strike, (1, 201)) for strike in range(1, 202)))


if __name__ == "__main__":
    unittest.main()
