"""Melodies in general form: all melodies that keep a book, built by copies."""

from turnedtunes.errors import BadNote, BadPieces, NoPlace
from turnedtunes.integers import GREATEST, is_between, is_from, is_whole
from turnedtunes.leads import led_by
from turnedtunes.links import links_of_book
from turnedtunes.pieces import holds, index_at, length_of, links_of_pieces, new_ahead, new_stretches
from turnedtunes.pieces import pieces_of, read, starts_of
from turnedtunes.places import check_stretch
from turnedtunes.solving import free_in, solved


class Melody:
    """Places whose notes can be chosen, places with certain notes, and copies of what lies ahead of them."""

    def __init__(self, pieces):
        if not _are_pieces(pieces):
            raise BadPieces(pieces)
        self.pieces = pieces
        self.starts = starts_of(pieces)
        self.ahead = new_ahead(pieces)
        self.size = self.starts[-1]
        self.new = self.ahead[-1]

    def __getitem__(self, at):
        if not is_between(at, 0, self.size - 1):
            raise NoPlace(at)
        found = read(self.pieces, self.starts, at)
        if found[0] == "told":
            return found
        word, place, amount = found
        piece = index_at(self.starts, place)
        return word, self.ahead[piece] + place - self.starts[piece], amount

    def __iter__(self):
        raise TypeError("ask a melody for each place instead")

    def played(self, look, first, length):
        """The notes of so many places, look(k) being that of the new place with number k."""
        check_stretch(first, length, self.size)
        found = [self[place] for place in range(first, first + length)]
        chosen = {}
        for number in sorted({what[1] for what in found if what[0] != "told"}):
            note = look(number)
            if not is_whole(note):
                raise BadNote(note)
            chosen[number] = note
        return tuple([_note_of(what, chosen) for what in found])

    def __eq__(self, other):
        return isinstance(other, Melody) and self.size == other.size and _same_places(self, other)


def keeps(book, melody):
    """Whether a melody keeps a book, whatever notes its new places have."""
    return melody.size == book.size and holds(melody.pieces, links_of_book(book))


def general(book):
    """A melody by which all melodies that keep a book are got."""
    return Melody(pieces_of(solved(book)))


def shows_general(book, value):
    """Whether a value is a correct result of general."""
    free = free_in(solved(book))
    return isinstance(value, Melody) and value.new == free and keeps(book, value)


def _note_of(what, chosen):
    if what[0] == "told":
        return what[1]
    word, number, amount = what
    return led_by((amount, word == "down"), chosen[number])


def _same_places(one, other):
    # Where the same places are new, what other says and one does not would
    # settle one of them.
    return (new_stretches(one.pieces) == new_stretches(other.pieces)
            and holds(one.pieces, links_of_pieces(other.pieces)))


def _are_pieces(value):
    if not isinstance(value, tuple) or len(value) == 0:
        return False
    here = 0
    for piece in value:
        if not _is_piece(piece, here):
            return False
        here = here + length_of(piece)
    return here <= GREATEST


def _is_piece(value, here):
    """Whether a value is a piece that can begin at this place."""
    if not isinstance(value, tuple) or len(value) == 0:
        return False
    if value[0] == "new":
        return len(value) == 2 and is_from(value[1], 1)
    if value[0] == "notes":
        return len(value) == 3 and is_from(value[1], 1) and is_whole(value[2])
    return value[0] == "copy" and len(value) == 6 and _is_copy(value, here)


def _is_copy(piece, here):
    _, first, length, amount, down, backward = piece
    if not (is_between(first, 0, here - 1) and is_from(length, 1) and is_whole(amount)):
        return False
    if not (isinstance(down, bool) and isinstance(backward, bool)):
        return False
    return not backward or first + length <= here
