"""Sheets written without the program, what they are answered with as a model reckons it, and where they are at fault."""

import re
from fractions import Fraction

from bookmodel import BookModel
from deedsmade import deed as deed_by, name_by
from deedsmodel import is_model_deed
from rowfaults import first_fault

NUMBER = "(?:0|[1-9][0-9]{0,6})"
NAME = "[a-z]{1,8}"
FRAC = "-?[0-9]{1,40}(?:/[0-9]{1,40})?"
DEEDS = {
    "juice": [NAME, NUMBER, NUMBER], "ladle": [NAME, NAME, FRAC], "skim": [NAME, FRAC, FRAC, NAME], "stop": [NAME], "start": [NAME],
    "drain": [NAME], "knock": [NAME], "drips": [NAME, FRAC],
}
ASKS = {
    "untell": [NUMBER], "juice": [NAME, NUMBER], "ready": [NAME, NUMBER], "filled": [NAME, NUMBER], "bears": [NAME, NUMBER],
    "loaves": [NUMBER], "vat": [NUMBER], "sums": [NUMBER], "waits": [NUMBER], "struck": [NUMBER], "voids": [], "count": [],
}


def frac_word(frac):
    """A fraction as it is written."""
    return str(Fraction(*frac))


def row_lines(kettles, moulds):
    """The row's text, by rows."""
    lines = [f"kettle {name} {room} {fire} {frac_word(mark)}" for name, room, fire, mark in kettles]
    return lines + [f"mould {name} {room} {frac_word(drip)}" for name, room, drip in moulds]


def words_of(thing):
    """The words of a deed or of a part of one."""
    if isinstance(thing, (str, int)):
        return [str(thing)]
    if len(thing) == 2 and all(type(part) is int for part in thing):
        return [frac_word(thing)]
    return [word for part in thing for word in words_of(part)]


def line_of(ask):
    """The row of a telling ("at", hour, deed) or a question (word, ..)."""
    return " ".join(words_of(ask))


def sheet_of(kettles, moulds, asks):
    """The text of a sheet."""
    return "\n".join(row_lines(kettles, moulds) + [line_of(ask) for ask in asks])


def asks_by(turns, row, many):
    """Tellings and questions that look like chance."""
    kettles, moulds, most = row
    names, forms = [kettle[0] for kettle in kettles], [mould[0] for mould in moulds]
    asks = []
    strikes = [0]
    told = 0
    for _ in range(many):
        hour = turns.one_of([turns.between(0, 20), turns.between(0, 60), turns.between(0, 200), turns.between(150, 204)])
        number = turns.one_of([turns.between(0, told + 1), turns.one_of(strikes)])
        if turns.below(2):
            asks.append(("at", hour, deed_by(turns, names, forms, most)))
            told += hour <= 200
            if asks[-1][2][0] == "strike":
                strikes.append(told)
            continue
        asks.append(turns.one_of([
            ("juice", name_by(turns, names, "pot"), hour), ("ready", name_by(turns, names, "pot"), hour),
            ("filled", name_by(turns, forms, "hat"), hour), ("bears", name_by(turns, forms, "hat"), hour), ("loaves", hour), ("vat", hour),
            ("sums", hour), ("waits", hour), ("struck", number), turns.one_of([("voids",), ("count",), ("untell", number)]),
        ]))
    return asks


def joined(parts):
    return " ".join(parts) or "-"


class DeskModel:
    """Answers, one for each telling or question, as they are reckoned without the program."""

    def __init__(self, kettles, moulds):
        self.names = [kettle[0] for kettle in kettles]
        self.forms = [mould[0] for mould in moulds]
        self.book = BookModel(kettles, moulds)

    def answer(self, ask):
        word, *rest = ask
        if word == "at":
            return self.of_told(self.book.on_tell(*rest), str)
        if word == "untell":
            return self.of_told(self.book.on_untell(*rest), lambda _: "gone")
        if word == "count":
            return str(len(self.book.told))
        if word == "voids":
            return joined(f"{number}:{hour}:{name}" for number, hour, name in self.book.on_voids()[1])
        if word == "struck":
            return self.of_told(self.book.on_struck_at(*rest), lambda hour: "never" if hour is None else str(hour))
        if not 0 <= rest[-1] <= 200:
            return "refused NoHour"
        if word == "waits":
            return joined(str(number) for number in self.book.on_waiting(*rest)[1])
        return self.of_works(word, rest)

    def of_told(self, told, text):
        return text(told[1]) if told[0] == "told" else "refused " + told[0]

    def of_works(self, word, rest):
        (_, _, each, _), (_, held, vat, loaves), _, sums = self.book.works_told(rest[-1])
        if word in ("juice", "ready") and rest[0] not in self.names:
            return "refused NoKettle"
        if word in ("filled", "bears") and rest[0] not in self.forms:
            return "refused NoMould"
        if word == "juice":
            return joined(words_of(each[self.names.index(rest[0])][0]))
        if word == "ready":
            when = each[self.names.index(rest[0])][3]
            return "never" if when is None else frac_word(when)
        if word == "filled":
            return joined(words_of(held[self.forms.index(rest[0])][0]))
        if word == "bears":
            return joined(f"{strike}:{frac_word(share)}" for strike, share in held[self.forms.index(rest[0])][2])
        if word == "loaves":
            return joined(f"{name}:{frac_word(sugar)}" for name, sugar, _ in loaves)
        if word == "vat":
            return joined(words_of(vat))
        return " ".join(words_of(sums[0]) + ["/"] + words_of(sums[1]))


def model_answers(kettles, moulds, asks):
    desk = DeskModel(kettles, moulds)
    return [desk.answer(ask) for ask in asks]


def fits(kind, word):
    """Whether a word is one of that kind."""
    if re.fullmatch(kind, word) is None or "\n" in word:
        return False
    if kind == FRAC:
        top, _, bottom = word.partition("/")
        return int(bottom or "1") > 0 and str(Fraction(int(top), int(bottom or "1"))) == word
    return True


def all_fit(kinds, words):
    return len(kinds) == len(words) and all(fits(kind, word) for kind, word in zip(kinds, words))


def ask_fits(line):
    """Whether a row is a telling or a question that is so written, its deed being one."""
    words = line.split(" ")
    if words[0] != "at":
        return words[0] in ASKS and all_fit(ASKS[words[0]], words[1:])
    if len(words) < 3 or not fits(NUMBER, words[1]):
        return False
    word, rest = words[2], words[3:]
    if word == "strike":
        pours = (len(rest) - 1) // 2
        return 1 <= pours <= 12 and all_fit([NAME] + [NAME, FRAC] * pours, rest)
    if word not in DEEDS or not all_fit(DEEDS[word], rest):
        return False
    return word != "juice" or is_model_deed(("juice", rest[0], int(rest[1]), int(rest[2])))


def first_sheet_fault(text):
    """The number that a sheet is refused with, None where it isn't refused."""
    lines = text.split("\n")
    ahead = 0
    while ahead < len(lines) and re.match("(kettle|mould)( |$)", lines[ahead]):
        ahead += 1
    fault = first_fault("\n".join(lines[:ahead]))
    if fault is not None:
        return fault
    for number in range(ahead, len(lines)):
        if not ask_fits(lines[number]):
            return number
    return None
