"""Books: the size of a melody, and the ties and notes that are told of it."""

from turnedtunes.errors import BadBook, BadNote, BadSize, BadTie, Full
from turnedtunes.errors import NoPlace, NoTie, OtherNote, OtherSize
from turnedtunes.forms import note_in, size_in, tie_in
from turnedtunes.integers import GREATEST, is_between, is_whole, written
from turnedtunes.ties import Tie, is_tie_within

# So many ties a book has at most, and so many notes.
MOST = 12


class Book:
    """What is told of a melody, by lines."""

    def __init__(self, text):
        size, ties, notes = _contents(text)
        self.text = text
        self.size = size
        self.ties = ties
        self.notes = notes

    def __len__(self):
        return len(self.ties)

    def __getitem__(self, at):
        if not is_between(at, 0, len(self.ties) - 1):
            raise NoTie(at)
        return self.ties[at]

    def __iter__(self):
        raise TypeError("go through the ties of a book instead")

    def __contains__(self, x):
        return isinstance(x, Tie) and x in self.ties

    def with_tie(self, tie):
        """This book with one tie more behind the others."""
        if not is_tie_within(tie, self.size):
            raise BadTie(tie)
        return _book_of(self.size, [*self.ties, tie], self.notes)

    def without(self, number):
        """This book without the tie that has this number."""
        if not is_between(number, 0, len(self.ties) - 1):
            raise NoTie(number)
        ties = [tie for at, tie in enumerate(self.ties) if at != number]
        return _book_of(self.size, ties, self.notes)

    def with_note(self, place, note):
        """This book with one note more behind the others."""
        if not is_between(place, 0, self.size - 1) or _has_note(self.notes, place):
            raise NoPlace(place)
        if not is_whole(note):
            raise BadNote(note)
        return _book_of(self.size, self.ties, [*self.notes, (place, note)])

    def __or__(self, other):
        if not isinstance(other, Book):
            return NotImplemented
        if self.size != other.size:
            raise OtherSize(other)
        _check_notes(self, other)
        ties = [tie for tie in other.ties if tie not in self.ties]
        notes = [note for note in other.notes if note not in self.notes]
        return _book_of(self.size, [*self.ties, *ties], [*self.notes, *notes])

    def __add__(self, other):
        if not isinstance(other, Book):
            return NotImplemented
        size = self.size + other.size
        if size > GREATEST:
            raise BadSize(size)
        ties = [_moved(tie, self.size) for tie in other.ties]
        notes = [(self.size + place, note) for place, note in other.notes]
        return _book_of(size, [*self.ties, *ties], [*self.notes, *notes])

    def __invert__(self):
        ties = [_turned(tie, self.size) for tie in self.ties]
        notes = [(self.size - 1 - place, note) for place, note in self.notes]
        return _book_of(self.size, ties, notes)

    def __neg__(self):
        ties = [_upside_down(tie) for tie in self.ties]
        notes = [(place, -note) for place, note in self.notes]
        return _book_of(self.size, ties, notes)

    def __eq__(self, other):
        return isinstance(other, Book) and self.text == other.text


def without_note(book, place):
    """A book without its note at this place."""
    if not is_between(place, 0, book.size - 1) or not _has_note(book.notes, place):
        raise NoPlace(place)
    return _book_of(book.size, book.ties, [note for note in book.notes if note[0] != place])


def _contents(text):
    """The size, the ties and the notes of a text."""
    if not isinstance(text, str):
        raise BadBook(0)
    lines = text.split("\n")
    size = size_in(lines[0])
    if size is None:
        raise BadBook(1)
    ties = _first_ties(lines[1:], size)
    notes = _first_notes(lines[1 + len(ties):], size)
    read = 1 + len(ties) + len(notes)
    if read < len(lines):
        raise BadBook(read + 1)
    return size, tuple(ties), tuple(notes)


def _first_ties(lines, size):
    """The ties of these lines, up to the first line that cannot stand there."""
    ties = []
    for line in lines:
        tie = tie_in(line, size)
        if tie is None or len(ties) == MOST:
            break
        ties.append(tie)
    return ties


def _first_notes(lines, size):
    """The notes of these lines, up to the first line that cannot stand there."""
    notes = []
    for line in lines:
        note = note_in(line, size)
        if note is None or _has_note(notes, note[0]) or len(notes) == MOST:
            break
        notes.append(note)
    return notes


def _has_note(notes, place):
    return place in [told for told, _ in notes]


def _check_notes(one, other):
    known = dict(one.notes)
    for place, note in other.notes:
        if known.get(place, note) != note:
            raise OtherNote((place, note))


def _book_of(size, ties, notes):
    """The book of these, written anew."""
    if len(ties) > MOST or len(notes) > MOST:
        raise Full(MOST)
    tie_lines = [f"tie {tie.text}" for tie in ties]
    note_lines = [f"note {place} {written(note)}" for place, note in notes]
    return Book("\n".join([f"size {size}", *tie_lines, *note_lines]))


def _moved(tie, by):
    return Tie(tie.first + by, tie.second + by, tie.length, tie.amount, down=tie.down, backward=tie.backward)


def _turned(tie, size):
    # The last place of a part becomes its first one.
    first = size - tie.first - tie.length
    second = size - tie.second - tie.length
    return Tie(first, second, tie.length, tie.amount, down=tie.down, backward=tie.backward)


def _upside_down(tie):
    return Tie(tie.first, tie.second, tie.length, -tie.amount, down=tie.down, backward=tie.backward)
