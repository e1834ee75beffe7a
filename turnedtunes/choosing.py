"""Which further ties and notes are the cheapest by which wishes come true."""

from turnedtunes.errors import BadOffers, BadWishes, Full, NoPlace
from turnedtunes.forms import note_in, tie_in
from turnedtunes.hanging import free, hangs
from turnedtunes.integers import is_between, is_from
from turnedtunes.intervals import interval
from turnedtunes.links import links_of_book
from turnedtunes.solving import free_by, solved

_MOST_OFFERS = 4
_MOST_WISHES = 3
_GREATEST_PRICE = 9


def cheapest(book, offers, wishes):
    """("choice", price, choice, reasons): the first choice by which all wishes hold; or ("none", reasons)."""
    if not _are_offers(book, offers):
        raise BadOffers(offers)
    if not _are_wishes(book, wishes):
        raise BadWishes(wishes)
    solved(book)
    reasons = []
    for price, _, choice in _choices(offers):
        longer = _with_lines(book, choice)
        if longer is None:
            continue
        failing = _first_failing(longer, wishes)
        if failing is None:
            return "choice", price, choice, tuple(reasons)
        reasons.append((choice, failing))
    return "none", tuple(reasons)


def _choices(offers):
    """(price, how many, choice) of all choices, in sequence."""
    choices = [(0, 0, ())]
    for offer in offers:
        more = [(price + offer[1], many + 1, (*choice, offer)) for price, many, choice in choices]
        choices = [*choices, *more]
    return sorted(choices)


def _with_lines(book, choice):
    """The book with the lines of a choice; None if the choice does not count."""
    longer = book
    for line, _ in choice:
        try:
            longer = _with_line(longer, line)
        except (Full, NoPlace):
            return None
    return None if free_by(longer.size, links_of_book(longer)) is None else longer


def _with_line(book, line):
    tie = tie_in(line, book.size)
    if tie is not None:
        return book.with_tie(tie)
    place, note = note_in(line, book.size)
    return book.with_note(place, note)


def _first_failing(book, wishes):
    """The number of the first wish that does not hold; None if all do."""
    for number, wish in enumerate(wishes):
        if not _holds(book, wish):
            return number
    return None


def _holds(book, wish):
    if wish[0] == "told":
        return hangs(book, wish[1])[0] == "told"
    if wish[0] == "sure":
        return interval(book, wish[1], wish[2])[0] != "open"
    return free(book) <= wish[1]


def _are_offers(book, value):
    if not isinstance(value, tuple) or not 1 <= len(value) <= _MOST_OFFERS:
        return False
    if not all([_is_offer(book, offer) for offer in value]):
        return False
    # No line stands there twice: so the lines alone ascend, too.
    lines = [line for line, _ in value]
    return all([one < other for one, other in zip(lines, lines[1:])])


def _is_offer(book, value):
    if not isinstance(value, tuple) or len(value) != 2:
        return False
    line, price = value
    return isinstance(line, str) and is_between(price, 1, _GREATEST_PRICE) and _can_be_offered(book, line)


def _can_be_offered(book, line):
    if tie_in(line, book.size) is not None:
        return True
    told = note_in(line, book.size)
    return told is not None and told[0] not in [place for place, _ in book.notes]


def _are_wishes(book, value):
    if not isinstance(value, tuple) or not 1 <= len(value) <= _MOST_WISHES:
        return False
    return all([_is_wish(book, wish) for wish in value])


def _is_wish(book, value):
    if not isinstance(value, tuple) or len(value) == 0:
        return False
    word, numbers = value[0], value[1:]
    if word == "free":
        return len(numbers) == 1 and is_from(numbers[0], 0)
    if word not in ("told", "sure") or len(numbers) != (1 if word == "told" else 2):
        return False
    return all([is_between(place, 0, book.size - 1) for place in numbers])
