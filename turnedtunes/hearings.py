"""Hearings: what is known of a melody while it is heard, and what was done to get there."""

from turnedtunes.books import Book, without_note
from turnedtunes.errors import BadSize, NothingToRedo, NothingToUndo, NoTrial
from turnedtunes.hanging import hangs
from turnedtunes.integers import GREATEST, is_between, written
from turnedtunes.solving import free_in, solved


class Trial:
    """A block of deeds that leaves nothing behind, unless it is kept."""

    def __init__(self, hearing):
        self.hearing = hearing
        self.kept = None

    def __enter__(self):
        hearing = self.hearing
        self.outer = hearing.block
        self.past = hearing.past
        self.ahead = hearing.ahead
        self.book = hearing.book
        self.free = hearing.free
        self.done = hearing.done
        hearing.block = self
        return hearing

    def __exit__(self, kind, value, trace):
        hearing = self.hearing
        hearing.block = self.outer
        if kind is not None or self.kept is None:
            hearing.past = self.past
            hearing.ahead = self.ahead
            hearing.book = self.book
            hearing.free = self.free
            hearing.done = self.done


class Hearing:
    """A melody that is heard: ties and notes come and go, and can be taken back."""

    def __init__(self, size):
        if not is_between(size, 1, GREATEST):
            raise BadSize(size)
        self.size = size
        # The deeds that stand, and those that were taken back, the last of them
        # behind the others: for each its line, and the book and how many places
        # are free after it. Ahead of them stands how all began.
        self.past = (("", Book(f"size {size}"), size),)
        self.ahead = ()
        self.block = None
        self._show()

    def hear(self, tie):
        """One tie more is known."""
        book = self.book.with_tie(tie)
        self._do(f"hear {tie.text}", book)

    def note(self, place, note):
        """The note at a place is known."""
        book = self.book.with_note(place, note)
        self._do(f"note {place} {written(note)}", book)

    def forget(self, number):
        """The tie with this number goes."""
        book = self.book.without(number)
        self._do(f"forget {number}", book)

    def drop(self, place):
        """The note at a place goes."""
        book = without_note(self.book, place)
        self._do(f"drop {place}", book)

    def undo(self):
        """Takes the last deed back that stands."""
        if self.done == 0:
            raise NothingToUndo(None)
        self.ahead = (*self.ahead, self.past[-1])
        self.past = self.past[:-1]
        self._show()

    def redo(self):
        """Does the deed again that was taken back last."""
        if len(self.ahead) == 0:
            raise NothingToRedo(None)
        self.past = (*self.past, self.ahead[-1])
        self.ahead = self.ahead[:-1]
        self._show()

    def trial(self):
        """A block behind which all is as it was when it began, unless it is kept."""
        return Trial(self)

    def keep(self):
        """What is done in the innermost block stays."""
        block = self.block
        if block is None:
            raise NoTrial(None)
        block.kept = True

    def tried(self, look, *, keep=False):
        """What look returns of this hearing, called in a block."""
        block = self.trial()
        with block:
            answer = look(self)
            if keep is True:
                block.kept = True
        return answer

    def copy(self):
        """An independent hearing, alike in all things, itself outside of all blocks."""
        other = Hearing(self.size)
        other.past = self.past
        other.ahead = self.ahead
        other._show()
        return other

    def __len__(self):
        return len(self.book)

    def __getitem__(self, at):
        return hangs(self.book, at)

    def __setitem__(self, at, worth):
        self.note(at, worth)

    def __iter__(self):
        raise TypeError("ask a hearing for each place instead")

    def __contains__(self, x):
        return x in self.book

    def __iadd__(self, other):
        self.hear(other)
        return self

    def __isub__(self, other):
        self.forget(other)
        return self

    def __eq__(self, other):
        return isinstance(other, Hearing) and self.book == other.book

    def _do(self, line, book):
        """One deed more stands, if some melody keeps the book after it."""
        free = free_in(solved(book))
        self.past = (*self.past, (line, book, free))
        self.ahead = ()
        self._show()

    def _show(self):
        _, self.book, self.free = self.past[-1]
        self.done = len(self.past) - 1
