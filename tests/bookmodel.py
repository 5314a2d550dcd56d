"""A book reckoned without the program: each hour anew from the first one, every strike that waits tried in each."""

from deedsmade import deed as deed_by
from deedsmodel import is_model_deed
from helpers import told_or_refused
from model import Model, copied

WAITS = ["Empty", "NotReady", "TooStrong", "Cured", "NoRoom"]


def tuples_through(thing):
    return tuple(tuples_through(part) for part in thing) if isinstance(thing, (list, tuple)) else thing


class BookModel:
    """Tellings; what they come to is reckoned once for each change."""

    def __init__(self, kettles, moulds):
        self.made = (kettles, moulds)
        self.told = {}
        self.given = 0
        self.hours = None

    def attempt(self, word, *arguments):
        """("told", answer), or the class's name and the what of a refusal."""
        return getattr(self, "on_" + word)(*arguments)

    def on_tell(self, hour, deed):
        if not 0 <= hour <= 200:
            return ("NoHour", hour)
        if not is_model_deed(deed):
            return ("BadDeed", deed)
        self.given += 1
        self.told[self.given] = (hour, tuples_through(deed))
        self.hours = None
        return ("told", self.given)

    def on_untell(self, number):
        if number not in self.told:
            return ("NoTelling", number)
        del self.told[number]
        self.hours = None
        return ("told", None)

    def on_tellings(self):
        return ("told", [(number, *self.told[number]) for number in sorted(self.told)])

    def account(self):
        """For each hour: (state, done, voids, waiting)."""
        if self.hours is None:
            model = Model(*self.made)
            self.hours = []
            waiting = []
            for hour in range(201):
                tried = sorted(waiting) + [(hour, number) for number in sorted(self.told) if self.told[number][0] == hour]
                done, voids, waiting = [], [], []
                for since, number in tried:
                    deed = self.told[number][1]
                    told = model.attempt("do", deed)
                    if told[0] == "told":
                        done.append((number, hour, told[1]))
                    elif deed[0] == "strike" and told[0] in WAITS:
                        waiting.append((since, number))
                    else:
                        voids.append((number, hour, told[0]))
                self.hours.append((copied(model.state), done, voids, waiting))
                model.on_boil_on(1)
        return self.hours

    def works_told(self, hour):
        """All that works of an hour tell."""
        model = Model(*self.made)
        model.state = copied(self.account()[hour][0])
        return model.works_told()

    def on_done_by(self, hour):
        if not 0 <= hour <= 200:
            return ("NoHour", hour)
        return ("told", [one for _, done, _, _ in self.account()[:hour + 1] for one in done])

    def on_waiting(self, hour):
        if not 0 <= hour <= 200:
            return ("NoHour", hour)
        return ("told", sorted(number for _, number in self.account()[hour][3]))

    def on_voids(self):
        return ("told", [one for _, _, voids, _ in self.account() for one in voids])

    def on_struck_at(self, number):
        if number not in self.told or self.told[number][1][0] != "strike":
            return ("NoTelling", number)
        hours = [hour for _, done, _, _ in self.account() for one, hour, _ in done if one == number]
        return ("told", hours[0] if hours else None)


def asked(book, call):
    """What a call of a book's method tells, or the class's name and the what of its refusal."""
    return told_or_refused(getattr(book, call[0]), *call[1:])


def book_told(book, works_told, hours=(0, 1, 7, 30, 100, 199, 200)):
    """All that a book tells when it is asked, its works at some hours."""
    tellings = book.tellings()
    return (
        tellings, book.voids(), [book.done_by(hour) for hour in hours], [book.waiting(hour) for hour in range(201)],
        [works_told(book.works(hour)) for hour in hours], [asked(book, ("struck_at", number)) for number, _, _ in tellings])


def tellings_by(turns, row, many, hours=200):
    """Hours and deeds that look like chance; most are told for the first half of the hours."""
    kettles, moulds, most = row
    names, forms = [kettle[0] for kettle in kettles], [mould[0] for mould in moulds]
    told = []
    for _ in range(many):
        hour = turns.one_of([turns.between(0, hours), turns.between(0, hours // 2), turns.between(0, 5)])
        told.append((hour, deed_by(turns, names, forms, most)))
    return told
