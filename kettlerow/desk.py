"""A desk: it answers the tellings and questions of a sheet."""

from kettlerow.book import Book
from kettlerow.errors import BoilError
from kettlerow.fractext import frac_text
from kettlerow.sheet import sheet_in


def answers(text):
    """The answers of a sheet, a text for each of its rows behind the row's text."""
    row, asks = sheet_in(text)
    book = Book(row)
    told = []
    for ask in asks:
        told.append(_answer(book, ask))
    return told


def _answer(book, ask):
    """The answer to a telling or a question, refused or not."""
    try:
        return _answer_of_book(book, ask)
    except BoilError as refusal:
        return "refused " + refusal.word


def _answer_of_book(book, ask):
    """The answer to a telling, or to what a book is asked."""
    match ask:
        case ("at", hour, deed):
            return str(book.tell(hour, deed))
        case ("untell", number):
            book.untell(number)
            return "gone"
        case ("waits", hour):
            return _joined([str(telling) for telling in book.waiting(hour)])
        case ("struck", number):
            return _hour_text(book.struck_at(number))
        case ("voids",):
            return _joined([f"{telling}:{when}:{word}" for telling, when, word in book.voids()])
        case ("count",):
            return str(len(book.tellings()))
    # All others end in the hour of the works that are asked.
    return _answer_of_works(book.works(ask[-1]), ask)


def _answer_of_works(works, ask):
    """The answer to what the works of an hour are asked."""
    match ask:
        case ("juice", kettle, _):
            return _fracs_text(works.kettles_now().juice_of(kettle))
        case ("ready", kettle, _):
            return _ready_text(works.kettles_now().ready_at(kettle))
        case ("filled", mould, _):
            return _fracs_text(works.moulds_now().juice_in(mould))
        case ("bears", mould, _):
            return _joined([f"{strike}:{frac_text(share)}" for strike, share in works.moulds_now().bears(mould)])
        case ("loaves", _):
            return _joined([f"{name}:{frac_text(sugar)}" for name, sugar, _ in works.moulds_now().loaves()])
        case ("vat", _):
            return _fracs_text(works.moulds_now().vat())
        case ("sums", _):
            sugars, waters = works.sums()
            return f"{_fracs_text(sugars)} / {_fracs_text(waters)}"


def _fracs_text(fracs):
    """Some fractions, parted by blanks."""
    return " ".join([frac_text(frac) for frac in fracs])


def _ready_text(when):
    """When a kettle is ready; never where it isn't ever."""
    if when is None:
        return "never"
    return frac_text(when)


def _hour_text(hour):
    """The hour of a strike; never where there is none."""
    if hour is None:
        return "never"
    return str(hour)


def _joined(texts):
    """Some texts, parted by blanks; a dash where there is nothing to tell."""
    if not texts:
        return "-"
    return " ".join(texts)
