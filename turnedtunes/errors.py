"""The errors of this package: each keeps as `value` what was refused."""


class TuneError(ValueError):
    """What all errors of this package are; its value may be any value."""

    def __init__(self, value):
        ValueError.__init__(self, value)
        self.value = value


class BadPlace(TuneError):
    """A part of a tie does not begin at an integer from 0 on."""


class BadLength(TuneError):
    """A length is no integer from 1 on, or a part ends too far to the right."""


class BadAmount(TuneError):
    """The amount of a tie is no integer."""


class BadWay(TuneError):
    """Whether a tie is down, or backward, is not told by a bool."""


class BadText(TuneError):
    """No text of a tie."""


class NoPlace(TuneError):
    """No place that can be asked for here."""


class BadNote(TuneError):
    """A note is no integer."""


class BadPart(TuneError):
    """(start, length) is no part of a tie."""


class NoJoint(TuneError):
    """(one, other) are ties that no place joins."""


class BadNumber(TuneError):
    """No integer within the limits that are set for it."""


class BadBook(TuneError):
    """The number of the first wrong line of a book, 0 for what is no string."""


class NoTie(TuneError):
    """Not the number of a tie."""


class BadTie(TuneError):
    """No tie within the size."""


class Full(TuneError):
    """No more ties, or no more notes, than this number can stand in a book."""


class OtherSize(TuneError):
    """No book of the same size."""


class OtherNote(TuneError):
    """(place, note) gives another note to a place that has one."""


class BadSize(TuneError):
    """No size that a melody can have."""


class Clash(TuneError):
    """A book that no melody keeps."""


class BadPieces(TuneError):
    """No pieces of a melody."""


class IsTold(TuneError):
    """A place that is told."""


class NoNumber(TuneError):
    """No number of a place."""


class BadBounds(TuneError):
    """(low, high) are not the bounds of a range."""


class NoRoom(TuneError):
    """(low, high) are bounds in which no melody has room."""


class BadOffers(TuneError):
    """No offers of lines."""


class BadWishes(TuneError):
    """No wishes."""


class NothingToUndo(TuneError):
    """No deed stands."""


class NothingToRedo(TuneError):
    """No deed was taken back that can be done again."""


class NoTrial(TuneError):
    """No trial is going on."""


class BadJournal(TuneError):
    """The number of the first wrong line of a journal, 0 for what is no string."""


class BadLine(TuneError):
    """No line that can be said at a desk."""
