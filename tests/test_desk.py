"""A desk: the answers to tellings and questions, what is refused there, sheets cut, and names renamed."""

import unittest

from helpers import FORTY, Turns
from kettlerow.book import Book
from kettlerow.desk import answers
from kettlerow.rows import Row
from rowsmade import KETTLES, MOULDS
from sheetsmade import asks_by, line_of, model_answers, row_lines, sheet_of

SMALL_KETTLES = [("a", 60, 9, (1, 3)), ("b", 50, 4, (1, 2)), ("c", 40, 7, (3, 5))]
SMALL_MOULDS = [("d", 6, (1, 2)), ("e", 15, (0, 1)), ("f", 9, (7, 12))]
ROWS = [(KETTLES, MOULDS, 400), (SMALL_KETTLES, SMALL_MOULDS, 40), ([("a", 90, 5, (1, 2))], [("b", 60, (1, 3))], 60)]
TOP = row_lines(KETTLES, MOULDS)


class Checked(unittest.TestCase):
    def assert_answers(self, asked, *top):
        """Each row of the pairs (row, answer) is answered so."""
        told = answers("\n".join([*(top or TOP), *[line for line, _ in asked]]))
        self.assertEqual([(line, one) for (line, _), one in zip(asked, told)], asked)
        self.assertIs(type(told), list)
        self.assertEqual(len(told), len(asked))
        self.assertEqual({type(one) for one in told}, {str} if asked else set())


class RowsAlone(Checked):
    def test_no_rows_behind(self):
        self.assert_answers([])
        self.assert_answers([], "kettle pan 1 0 1/2")
        self.assert_answers([], "kettle pan 1 0 1/2", "mould cone 1 0")


class TellingsAtADesk(Checked):
    def test_numbers(self):
        self.assert_answers([
            ("at 0 juice sirop 40 60", "1"), ("at 200 ladle sirop grande 1/2", "2"), ("at 3 skim sirop 1/2 0 sirop", "3"), ("at 3 stop sirop", "4"),
            ("at 3 start sirop", "5"), ("at 5 strike sirop cone 1/2 loaf 1/3", "6"), ("at 6 drain cone", "7"), ("at 7 knock cone", "8"),
            ("at 8 drips sirop 1/12", "9"), ("count", "9")])

    def test_deeds_of_any_names_and_fractions(self):
        self.assert_answers([
            ("at 0 juice pot 1000000 0", "1"), ("at 0 juice pot 0 1000000", "2"), (f"at 0 ladle a b {FORTY}", "3"), (f"at 0 ladle a b -{FORTY}", "4"),
            (f"at 0 skim a 1/{FORTY} -1/{FORTY} b", "5"), (f"at 0 strike vat at {FORTY - 1}/{FORTY}", "6"), ("at 0 stop kettle", "7"),
            ("at 0 drips zzzzzzzz 0", "8"), ("at 0 strike a" + " b 1/2" * 12, "9"),
            ("voids", "1:0:NoKettle 2:0:NoKettle 3:0:NoKettle 4:0:NoKettle 5:0:NoKettle 6:0:NoKettle 7:0:NoKettle 8:0:NoKettle 9:0:NoKettle")])

    def test_untold(self):
        self.assert_answers([
            ("at 0 juice sirop 40 60", "1"), ("at 0 juice sirop 4 6", "2"), ("juice sirop 0", "44 66"), ("untell 1", "gone"), ("juice sirop 0", "4 6"),
            ("untell 1", "refused NoTelling"), ("count", "1"), ("at 0 juice sirop 1 1", "3"), ("untell 3", "gone"), ("untell 2", "gone"),
            ("count", "0"), ("juice sirop 0", "0 0"), ("at 1 stop sirop", "4")])

    def test_told_late(self):
        self.assert_answers([
            ("at 5 strike sirop cone 1", "1"), ("struck 1", "never"), ("at 2 juice sirop 20 40", "2"), ("struck 1", "5"), ("at 2 stop sirop", "3"),
            ("struck 1", "never"), ("at 9 start sirop", "4"), ("struck 1", "10"), ("untell 4", "gone"), ("struck 1", "never"), ("untell 3", "gone"),
            ("struck 1", "5")])

    def test_of_the_rows_ahead_alone(self):
        self.assert_answers([
            ("juice sirop 3", "0 0"), ("at 0 juice sirop 40 60", "1"), ("juice sirop 3", "40 40"), ("at 0 juice sirop 1 0", "2"),
            ("juice sirop 3", "41 41"), ("count", "2")])


class QuestionsAtADesk(Checked):
    def test_nothing_there(self):
        self.assert_answers([
            ("juice sirop 0", "0 0"), ("ready sirop 0", "never"), ("filled cone 200", "0 0"), ("bears cone 0", "-"), ("loaves 0", "-"), ("vat 200", "0 0"),
            ("sums 0", "0 0 0 0 0 0 / 0 0 0 0 0 0"), ("waits 0", "-"), ("voids", "-"), ("count", "0")])

    def test_juice_and_ready(self):
        self.assert_answers([
            ("at 0 juice sirop 10 55", "1"), ("juice sirop 0", "10 55"), ("juice sirop 1", "10 35"), ("juice sirop 2", "10 15"), ("juice sirop 3", "10 10"),
            ("juice sirop 200", "10 10"), ("ready sirop 0", "9/4"), ("ready sirop 2", "9/4"), ("ready sirop 3", "3"), ("ready sirop 200", "200"),
            ("at 1 ladle sirop grande 1/3", "2"), ("juice sirop 1", "20/3 70/3"), ("juice grande 1", "10/3 35/3"), ("ready sirop 1", "11/6"),
            ("at 1 stop sirop", "3"), ("ready sirop 1", "never"), ("at 0 juice flambeau 0 5", "4"), ("ready flambeau 0", "never")])

    def test_moulds(self):
        self.assert_answers([
            ("at 0 juice sirop 60 60", "1"), ("at 0 strike sirop cone 1/6 loaf 1/6", "2"), ("at 1 strike sirop cone 1/8", "3"),
            ("filled cone 0", "10 10"), ("bears cone 0", "1:1"), ("filled cone 1", "15 15"), ("bears cone 1", "1:2/3 2:1/3"), ("bears loaf 200", "1:1"),
            ("at 2 drain cone", "4"), ("filled cone 2", "45/4 0"), ("vat 2", "15/4 15"), ("bears cone 2", "1:2/3 2:1/3"),
            ("at 3 knock cone", "5"), ("loaves 2", "-"), ("loaves 3", "cone:45/4"), ("filled cone 3", "0 0"), ("bears cone 3", "-"),
            ("at 3 drain loaf", "6"), ("at 3 knock loaf", "7"), ("loaves 3", "cone:45/4 loaf:20/3"), ("vat 1", "0 0")])

    def test_sums(self):
        self.assert_answers([
            ("at 0 juice sirop 60 100", "1"), ("at 2 strike sirop cone 1/6", "2"), ("at 3 drain cone", "3"), ("at 4 knock cone", "4"),
            ("at 5 skim sirop 1/10 0 sirop", "5"), ("sums 1", "60 60 0 0 0 0 / 100 80 0 0 20 0"), ("sums 2", "60 50 10 0 0 0 / 100 50 10 0 40 0"),
            ("sums 3", "60 50 15/2 5/2 0 0 / 100 50 0 10 40 0"), ("sums 4", "60 50 0 5/2 15/2 0 / 100 50 0 10 40 0"),
            ("sums 200", "60 45 0 5/2 15/2 5 / 100 45 0 10 40 5")])

    def test_waits_struck_and_voids(self):
        self.assert_answers([
            ("at 4 strike sirop cone 1", "1"), ("at 2 strike batterie loaf 1/2", "2"), ("at 0 juice sirop 10 130", "3"), ("at 0 drain cone", "4"),
            ("at 3 strike pot cone 1", "5"), ("waits 1", "-"), ("waits 2", "2"), ("waits 4", "1 2"), ("waits 5", "1 2"), ("waits 6", "2"),
            ("waits 200", "2"), ("struck 1", "6"), ("struck 2", "never"), ("struck 5", "never"), ("voids", "4:0:Empty 5:3:NoKettle"), ("count", "5")])

    def test_long_fractions(self):
        asked = [("at 0 juice sirop 1 0", "1")]
        for number in range(2, 12):
            asked.append(("at 0 skim sirop 1/11 0 sirop", str(number)))
        self.assert_answers(asked + [("juice sirop 0", f"{10 ** 10}/{11 ** 10} 0")])


class RefusedAtADesk(Checked):
    def test_hours(self):
        for hour in [201, 202, 1000, 9999999]:
            self.assert_answers([
                (f"at {hour} juice sirop 40 60", "refused NoHour"), (f"at {hour} strike pot hat 2", "refused NoHour"), (f"juice sirop {hour}", "refused NoHour"),
                (f"ready sirop {hour}", "refused NoHour"), (f"filled cone {hour}", "refused NoHour"), (f"bears cone {hour}", "refused NoHour"),
                (f"loaves {hour}", "refused NoHour"), (f"vat {hour}", "refused NoHour"), (f"sums {hour}", "refused NoHour"),
                (f"waits {hour}", "refused NoHour"), ("count", "0"), ("at 200 stop sirop", "1")])

    def test_names(self):
        for name in ["pot", "cone", "vat", "at"]:
            self.assert_answers([(f"juice {name} 3", "refused NoKettle"), (f"ready {name} 200", "refused NoKettle")])
        for name in ["hat", "sirop", "vat", "at"]:
            self.assert_answers([(f"filled {name} 3", "refused NoMould"), (f"bears {name} 200", "refused NoMould")])

    def test_no_hour_goes_first(self):
        self.assert_answers([
            ("juice pot 201", "refused NoHour"), ("ready cone 201", "refused NoHour"), ("filled hat 201", "refused NoHour"),
            ("bears sirop 9999999", "refused NoHour")])

    def test_tellings(self):
        self.assert_answers([
            ("at 0 juice sirop 40 60", "1"), ("at 9 strike sirop cone 1/2", "2"), ("struck 1", "refused NoTelling"), ("struck 0", "refused NoTelling"),
            ("struck 3", "refused NoTelling"), ("untell 0", "refused NoTelling"), ("untell 3", "refused NoTelling"), ("untell 9999999", "refused NoTelling"),
            ("untell 2", "gone"), ("struck 2", "refused NoTelling"), ("count", "1")])

    def test_what_is_refused_changes_nothing(self):
        told = [("at 0 juice sirop 40 60", "1"), ("at 1 strike sirop cone 1/2", "2"), ("sums 9", "40 20 20 0 0 0 / 60 20 20 0 20 0")]
        refused = [("at 201 stop sirop", "refused NoHour"), ("untell 7", "refused NoTelling"), ("juice pot 3", "refused NoKettle")]
        self.assert_answers(refused + told[:1] + refused + told[1:2] + refused + told[2:] + [("count", "2"), ("voids", "-")])


class AgainstTheModel(Checked):
    def test_each_row(self):
        seen = {}
        for at, row in enumerate(ROWS):
            for seed in range(6):
                asks = asks_by(Turns(930 + 10 * at + seed), row, 120)
                awaited = model_answers(row[0], row[1], asks)
                self.assertEqual(answers(sheet_of(row[0], row[1], asks)), awaited)
                for ask, answer in zip(asks, awaited):
                    word = (ask[0], answer if answer[:7] in ("refused", "never", "-", "0 0") else "told")
                    seen[word] = seen.get(word, 0) + 1
        for word in ["at", "untell", "juice", "ready", "filled", "bears", "loaves", "vat", "sums", "waits", "struck", "voids", "count"]:
            self.assertGreater(seen[word, "told"], 4, word)
        for refused in [("at", "refused NoHour"), ("untell", "refused NoTelling"), ("struck", "refused NoTelling"), ("juice", "refused NoKettle")]:
            self.assertGreater(seen[refused], 1, refused)


class BesideABook(Checked):
    def test_as_a_book_tells(self):
        for at, row in enumerate(ROWS):
            asks = [ask for ask in asks_by(Turns(970 + at), row, 200) if ask[0] in ("at", "untell", "waits", "struck", "voids", "juice", "bears")]
            book = Book(Row(row[0], row[1]))
            awaited = [self.told(book, ask) for ask in asks]
            self.assertEqual(answers(sheet_of(row[0], row[1], asks)), awaited)

    def told(self, book, ask):
        try:
            if ask[0] == "at":
                return str(book.tell(ask[1], ask[2]))
            if ask[0] == "untell":
                return book.untell(ask[1]) or "gone"
            if ask[0] == "waits":
                return " ".join(map(str, book.waiting(ask[1]))) or "-"
            if ask[0] == "struck":
                return str(book.struck_at(ask[1])).replace("None", "never")
            if ask[0] == "voids":
                return " ".join(":".join(map(str, one)) for one in book.voids()) or "-"
            works = book.works(ask[2])
            if ask[0] == "juice":
                return " ".join(line_of([part]) for part in works.kettles_now().juice_of(ask[1]))
            return " ".join(f"{strike}:{line_of([share])}" for strike, share in works.moulds_now().bears(ask[1])) or "-"
        except ValueError as error:
            return "refused " + type(error).__name__


class SheetsCut(Checked):
    def test_the_first_rows_are_answered_as_in_the_whole(self):
        for at, row in enumerate(ROWS):
            asks = asks_by(Turns(860 + at), row, 60)
            whole = answers(sheet_of(row[0], row[1], asks))
            for many in range(0, 61, 3):
                self.assertEqual(answers(sheet_of(row[0], row[1], asks[:many])), whole[:many])

    def test_asked_again(self):
        text = sheet_of(ROWS[1][0], ROWS[1][1], asks_by(Turns(864), ROWS[1], 60))
        first = answers(text)
        kept = list(first)
        first.clear()
        self.assertEqual(answers(text), kept)

    def test_questions_left_out_change_no_other_answers(self):
        for at, row in enumerate(ROWS):
            asks = asks_by(Turns(865 + at), row, 80)
            whole = answers(sheet_of(row[0], row[1], asks))
            kept = [place for place, ask in enumerate(asks) if ask[0] in ("at", "untell") or place % 3 == 0]
            self.assertEqual(answers(sheet_of(row[0], row[1], [asks[place] for place in kept])), [whole[place] for place in kept])


class NamesRenamed(Checked):
    def test_answers_are_renamed_alike(self):
        # Also by words of the sheet itself, and so that names rise in another order.
        others = ["vat", "kettle", "mould", "at", "juice", "strike", "z", "loaves", "never", "gone", "a", "refused"]
        for at, row in enumerate(ROWS):
            kettles, moulds, _ = row
            old = [kettle[0] for kettle in kettles] + [mould[0] for mould in moulds] + ["pot", "hat", "pan", "cap"]
            new = dict(zip(old, others))
            asks = asks_by(Turns(950 + at), row, 120)
            told = answers(sheet_of(kettles, moulds, asks))
            renamed = [(new[kettle[0]], *kettle[1:]) for kettle in kettles], [(new[mould[0]], *mould[1:]) for mould in moulds]
            other = answers(sheet_of(*renamed, [self.with_names(ask, new) for ask in asks]))
            for ask, one, then in zip(asks, told, other):
                if ask[0] == "loaves" and one != "-" and not one.startswith("refused"):
                    one = " ".join(new[part.split(":")[0]] + ":" + part.split(":")[1] for part in one.split(" "))
                self.assertEqual(then, one, ask)

    def with_names(self, ask, new):
        """A telling or a question with its names renamed; its own word and its deed's stay."""
        if ask[0] == "at":
            return ("at", ask[1], (ask[2][0], *[self.renamed(part, new) for part in ask[2][1:]]))
        return (ask[0], *[self.renamed(part, new) for part in ask[1:]])

    def renamed(self, part, new):
        if isinstance(part, str):
            return new[part]
        if isinstance(part, (list, tuple)):
            return type(part)(self.renamed(one, new) for one in part)
        return part


if __name__ == "__main__":
    unittest.main()
