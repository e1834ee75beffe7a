"""How many places hang together, and which they are."""

from turnedtunes.errors import BadNumber, IsTold, NoNumber
from turnedtunes.integers import is_between
from turnedtunes.pieces import pieces_of, read, starts_of
from turnedtunes.places import check_place
from turnedtunes.solving import solved
from turnedtunes.tallies import Tally


def many(book, place, upto):
    """(up, down): how many places below upto hang on the least place on which this one hangs."""
    check_place(place, book.size)
    _check_upto(book, upto)
    return _tally_with(book, place).ways_below(upto)


def nth(book, place, number):
    """The place with this number among all that hang on the least place on which this one hangs."""
    check_place(place, book.size)
    tally = _tally_with(book, place)
    if not is_between(number, 0, tally.all_below(book.size) - 1):
        raise NoNumber(number)
    least, most = 0, book.size - 1
    while least < most:
        middle = (least + most) // 2
        if tally.all_below(middle + 1) > number:
            most = middle
        else:
            least = middle + 1
    return least


def told(book, upto):
    """How many of the places below upto are told."""
    _check_upto(book, upto)
    return Tally(pieces_of(solved(book))).all_below(upto)


def _check_upto(book, upto):
    if not is_between(upto, 0, book.size):
        raise BadNumber(upto)


def _tally_with(book, place):
    """The tally of the places that hang on the least place on which this one hangs."""
    pieces = pieces_of(solved(book))
    found = read(pieces, starts_of(pieces), place)
    if found[0] == "told":
        raise IsTold(place)
    return Tally(pieces, found[1])
