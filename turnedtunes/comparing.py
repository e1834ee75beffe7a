"""Which of two books says more."""

from turnedtunes.books import Book
from turnedtunes.errors import OtherSize
from turnedtunes.hanging import hangs
from turnedtunes.intervals import follows
from turnedtunes.links import links_of_book
from turnedtunes.solving import free_by, free_in, solved


def within(one, other):
    """("within",) if all that other says is sure in one; otherwise ("not", word, number, k): what is not, first."""
    _check_size(one, other)
    _free_of_each(one, other)
    for number, tie in enumerate(other.ties):
        found = follows(one, tie)
        if found[0] == "open":
            return "not", "tie", number, found[1]
    for number, (place, note) in enumerate(other.notes):
        if hangs(one, place) != ("told", note):
            return "not", "note", number, 0
    return ("within",)


def alike(one, other):
    """Whether the same melodies keep both books."""
    _check_size(one, other)
    free = free_by(one.size, [*links_of_book(one), *links_of_book(other)])
    return _free_of_each(one, other) == (free, free)


def _check_size(one, other):
    if not isinstance(other, Book) or other.size != one.size:
        raise OtherSize(other)


def _free_of_each(one, other):
    """How many places are free in each of two books, some melody keeping each."""
    return free_in(solved(one)), free_in(solved(other))
