"""Intervals that are sure, and ties that follow from others."""

from turnedtunes.errors import BadTie
from turnedtunes.leads import led_back, led_on, word_of
from turnedtunes.links import link_of, links_of_book
from turnedtunes.pieces import pieces_of, read, starts_of
from turnedtunes.places import check_place
from turnedtunes.solving import free_by, free_in, solved
from turnedtunes.steps import step_given
from turnedtunes.ties import is_tie_within


def interval(book, one, other):
    """("up", c) or ("down", c): how the note of other is surely got from that of one; or ("open",)."""
    check_place(one, book.size)
    check_place(other, book.size)
    pieces = pieces_of(solved(book))
    starts = starts_of(pieces)
    return _between(read(pieces, starts, one), read(pieces, starts, other))


def follows(book, tie):
    """("sure",), or ("open", k): the tie is not sure at place k of its first part, but at all ahead of it."""
    if not is_tie_within(tie, book.size):
        raise BadTie(tie)
    free = free_in(solved(book))
    if _is_sure(book, free, tie):
        return ("sure",)
    sure, most = 0, tie.length
    while most - sure > 1:
        middle = (sure + most) // 2
        if _is_sure(book, free, tie.part(0, middle)):
            sure = middle
        else:
            most = middle
    return "open", sure


def needless(book):
    """The numbers of the ties that follow from the book without them, ascending."""
    free = free_in(solved(book))
    return tuple([number for number in range(len(book)) if free_in(solved(book.without(number))) == free])


def _between(one, other):
    """The interval between two places, as told by what they hang on."""
    if one[0] == "told" and other[0] == "told":
        return "up", other[1] - one[1]
    if one[0] == "told" or other[0] == "told" or one[1] != other[1]:
        return ("open",)
    lead = led_on(led_back(_lead_of(one)), _lead_of(other))
    return word_of(lead), lead[0]


def _lead_of(found):
    word, _, amount = found
    return amount, word == "down"


def _is_sure(book, free, tie):
    """Whether a tie is sure by a book by which so many places are free."""
    links = [*links_of_book(book), link_of(tie, step_given())]
    return free_by(book.size, links) == free
