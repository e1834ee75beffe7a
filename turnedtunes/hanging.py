"""What the places of a melody hang on."""

from turnedtunes.pieces import new_stretches, pieces_of, read, starts_of
from turnedtunes.places import check_place, check_stretch
from turnedtunes.solving import free_in, solved


def hangs(book, place):
    """("told", note), or (word, q, c): on which least place a place hangs, and how."""
    check_place(place, book.size)
    return _heard(book, place, 1)[0]


def free(book):
    """How many places are free."""
    return free_in(solved(book))


def free_parts(book):
    """(first, length) of all stretches of free places that cannot be made longer, ascending."""
    return new_stretches(pieces_of(solved(book)))


def heard(book, first, length):
    """What hangs tells of so many places."""
    check_stretch(first, length, book.size)
    return _heard(book, first, length)


def _heard(book, first, length):
    pieces = pieces_of(solved(book))
    starts = starts_of(pieces)
    return tuple([read(pieces, starts, place) for place in range(first, first + length)])
