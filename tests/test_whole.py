"""Point 2, over the whole program: names of parameters, values of any kind, nothing changed, equal results."""

import inspect
import unittest

from turnedtunes.books import Book
from turnedtunes.choosing import cheapest
from turnedtunes.comparing import alike, within
from turnedtunes.compass import compass, reach, room
from turnedtunes.counting import many, nth, told
from turnedtunes.desk import Desk
from turnedtunes.errors import BadAmount, BadBook, BadBounds, BadJournal, BadLength, BadLine, BadNote, BadNumber
from turnedtunes.errors import BadOffers, BadPart, BadPieces, BadPlace, BadSize, BadText, BadTie, BadWay, BadWishes
from turnedtunes.errors import NoNumber, NoPlace, NoTie, OtherSize, TuneError
from turnedtunes.hanging import free, free_parts, hangs, heard
from turnedtunes.hearings import Hearing
from turnedtunes.intervals import follows, interval, needless
from turnedtunes.journals import journal, read_journal
from turnedtunes.lines import fits, shows_fits, shows_why, why
from turnedtunes.melodies import Melody, general, keeps, shows_general
from turnedtunes.ties import Tie
from tests.helper import FAR, NO_BOOLS, NO_INTEGERS, NO_STRINGS, Case
from tests.test_hanging import CLASHES, SONG

TIE = Tie(0, 4, 4, 2)
MELODY = Melody((("new", 4), ("copy", 0, 8, 2, False, False)))
JOURNAL = "size 12\nhear 0 4 4 up 2\nnote 0 5\nnote 9 1"
OFFERS, WISHES = (("note 1 3", 2), ("tie 1 2 1 up 0", 1)), (("told", 2), ("free", 9))


def ten(number):
    return 10 * number


# Each call of a function of the program, by position.
CALLS = (
    (Tie, 0, 4, 4, 2), (Tie.of, "0 4 4 up 2 back"), (TIE, 1), (TIE.led, 5), (TIE.part, 1, 2),
    (Book, SONG.text), (SONG.with_tie, TIE), (SONG.without, 1), (SONG.with_note, 1, 3),
    (hangs, SONG, 5), (free, SONG), (free_parts, SONG), (heard, SONG, 2, 9),
    (why, SONG, 5), (shows_why, SONG, 5, why(SONG, 5)), (fits, SONG), (fits, CLASHES[0]),
    (shows_fits, SONG, ("fits", general(SONG))),
    (Melody, MELODY.pieces), (MELODY.played, ten, 3, 6), (keeps, SONG, MELODY), (general, SONG),
    (shows_general, SONG, MELODY),
    (interval, SONG, 5, 10), (follows, SONG, TIE), (needless, SONG),
    (many, SONG, 5, 12), (nth, SONG, 5, 2), (told, SONG, 12),
    (compass, SONG), (room, SONG, 4, 7), (reach, SONG, 10, 4, 7),
    (within, SONG, Book("size 12\ntie 0 4 5 up 2")), (alike, SONG, ~SONG), (cheapest, SONG, OFFERS, WISHES),
    (Hearing, 12), (read_journal, JOURNAL), (journal, read_journal(JOURNAL)), (Desk, JOURNAL),
)

# Each call of a method by which a hearing changes, or may change.
DEEDS = (
    ("hear", Tie(4, 8, 4)), ("note", 1, 3), ("forget", 0), ("drop", 9), ("undo",), ("redo",), ("copy",),
    ("tried", len),
)

LINES = ("hear 4 8 4 up 0", "note 2 3", "forget 0", "drop 9", "undo", "redo", "where 5", "between 5 9", "free",
         "compass")

# Each parameter that accepts any value: the call with it left out, the error, and values that are refused.
ANY = (
    (lambda given: Tie(given, 4, 4), BadPlace, NO_INTEGERS),
    (lambda given: Tie(0, given, 4), BadPlace, NO_INTEGERS),
    (lambda given: Tie(0, 4, given), BadLength, NO_INTEGERS),
    (lambda given: Tie(0, 4, 4, given), BadAmount, NO_INTEGERS),
    (lambda given: Tie(0, 4, 4, down=given), BadWay, NO_BOOLS),
    (lambda given: Tie(0, 4, 4, backward=given), BadWay, NO_BOOLS),
    (Tie.of, BadText, NO_STRINGS),
    (TIE, NoPlace, NO_INTEGERS),
    (TIE.led, BadNote, NO_INTEGERS),
    (lambda given: TIE * given, BadNumber, NO_INTEGERS),
    (Book, BadBook, NO_STRINGS),
    (lambda given: SONG[given], NoTie, NO_INTEGERS),
    (SONG.without, NoTie, NO_INTEGERS),
    (lambda given: SONG.with_note(given, 3), NoPlace, NO_INTEGERS),
    (lambda given: SONG.with_note(1, given), BadNote, NO_INTEGERS),
    (lambda given: hangs(SONG, given), NoPlace, NO_INTEGERS),
    (lambda given: heard(SONG, given, 1), NoPlace, NO_INTEGERS),
    (lambda given: heard(SONG, 0, given), BadLength, NO_INTEGERS),
    (lambda given: why(SONG, given), NoPlace, NO_INTEGERS),
    (lambda given: shows_why(SONG, given, ()), NoPlace, NO_INTEGERS),
    (Melody, BadPieces, NO_INTEGERS),
    (lambda given: MELODY[given], NoPlace, NO_INTEGERS),
    (lambda given: MELODY.played(ten, given, 1), NoPlace, NO_INTEGERS),
    (lambda given: MELODY.played(ten, 0, given), BadLength, NO_INTEGERS),
    (lambda given: MELODY.played(lambda number: given, 0, 1), BadNote, NO_INTEGERS),
    (lambda given: interval(SONG, given, 0), NoPlace, NO_INTEGERS),
    (lambda given: interval(SONG, 0, given), NoPlace, NO_INTEGERS),
    (lambda given: many(SONG, given, 0), NoPlace, NO_INTEGERS),
    (lambda given: many(SONG, 5, given), BadNumber, NO_INTEGERS),
    (lambda given: nth(SONG, given, 0), NoPlace, NO_INTEGERS),
    (lambda given: nth(SONG, 5, given), NoNumber, NO_INTEGERS),
    (lambda given: told(SONG, given), BadNumber, NO_INTEGERS),
    (lambda given: reach(SONG, given, 4, 7), NoPlace, NO_INTEGERS),
    (lambda given: within(SONG, given), OtherSize, NO_INTEGERS),
    (lambda given: alike(SONG, given), OtherSize, NO_INTEGERS),
    (lambda given: cheapest(SONG, given, WISHES), BadOffers, NO_INTEGERS),
    (lambda given: cheapest(SONG, OFFERS, given), BadWishes, NO_INTEGERS),
    (Hearing, BadSize, NO_INTEGERS),
    (lambda given: Hearing(4)[given], NoPlace, NO_INTEGERS),
    (lambda given: Hearing(4).note(given, 0), NoPlace, NO_INTEGERS),
    (lambda given: Hearing(4).note(0, given), BadNote, NO_INTEGERS),
    (lambda given: Hearing(4).forget(given), NoTie, NO_INTEGERS),
    (lambda given: Hearing(4).drop(given), NoPlace, NO_INTEGERS),
    (read_journal, BadJournal, NO_STRINGS),
    (Desk, BadJournal, NO_STRINGS),
    (Desk("size 4").say, BadLine, NO_STRINGS),
)

# Errors of which another value is told than the one that is refused.
OTHER_VALUES = {BadBook: 0, BadJournal: 0}


def inside(value):
    """All that is in a value, down to what is no object of the program."""
    if isinstance(value, (Book, Melody, Tie, Hearing, Desk)):
        return type(value).__name__, inside(vars(value))
    if isinstance(value, (tuple, list)):
        return type(value).__name__, [inside(one) for one in value]
    if isinstance(value, dict):
        return "dict", [(key, inside(one)) for key, one in value.items()]
    return value


class Parameters(Case):

    def names(self, call):
        return [name for name in inspect.signature(call).parameters if name != "self"]

    def test_by_name_and_by_position(self):
        for call, *given in CALLS:
            named = dict(zip(self.names(call), given))
            self.assertEqual(len(named), len(given))
            self.assertEqual(inside(call(**named)), inside(call(*given)))
            if len(given) > 1:
                first, *rest = named
                self.assertEqual(inside(call(named[first], **{name: named[name] for name in rest[::-1]})),
                                 inside(call(*given)))

    def test_deeds_by_name_and_by_position(self):
        for name, *given in DEEDS:
            one, other = read_journal(JOURNAL), read_journal(JOURNAL)
            for ear in (one, other):
                ear.note(2, 2)
                ear.undo()
            call = getattr(one, name)
            self.assertEqual(inside(call(**dict(zip(self.names(call), given)))), inside(getattr(other, name)(*given)))
            self.assertEqual(inside(one), inside(other))

    def test_behind_a_star_only_by_name(self):
        self.assertRaises(TypeError, Tie, 0, 4, 4, 2, True)
        self.assertRaises(TypeError, Hearing(4).tried, len, True)


class AnyValue(Case):

    def test_each_parameter_that_accepts_any(self):
        for call, error, values in ANY:
            for value in values:
                before = inside(value)
                self.refused(error, OTHER_VALUES.get(error, value), call, value)
                self.assertEqual(inside(value), before)

    def test_pairs_of_values(self):
        for value in NO_INTEGERS:
            self.refused(BadPart, (value, 1), TIE.part, value, 1)
            self.refused(BadPart, (0, value), TIE.part, 0, value)
            self.refused(BadBounds, (value, 1), room, SONG, value, 1)
            self.refused(BadBounds, (0, value), room, SONG, 0, value)
            self.refused(BadBounds, (value, 1), reach, SONG, 0, value, 1)
            self.refused(BadBounds, (0, value), reach, SONG, 0, 0, value)

    def test_ties(self):
        for value in NO_INTEGERS + (0, TIE.text, Tie(0, 9, 4)):
            if not isinstance(value, Tie) or value.length == 4:
                self.refused(BadTie, value, SONG.with_tie, value)
                self.refused(BadTie, value, follows, SONG, value)
                self.refused(BadTie, value, Hearing(12).hear, value)

    def test_parameters_that_refuse_nothing(self):
        for value in NO_INTEGERS + (0, FAR):
            self.assertIs(shows_why(SONG, 5, value), False)
            self.assertIs(shows_fits(SONG, value), False)
            self.assertIs(shows_general(SONG, value), False)
            self.assertIs(value in SONG, False)
            self.assertIs(value in Hearing(4), False)
            for one in (TIE, SONG, MELODY, read_journal(JOURNAL)):
                self.assertIs(one == value, False)
                self.assertIs(value == one, False)


class Unchanged(Case):

    def test_functions_change_nothing_and_equal_calls_return_equal_results(self):
        before = inside(CALLS)
        first = [inside(call(*given)) for call, *given in CALLS]
        again = [inside(call(*given)) for call, *given in CALLS]
        self.assertEqual(first, again)
        self.assertEqual(inside(CALLS), before)

    def test_hearings_are_not_changed_by_asking(self):
        ear = read_journal(JOURNAL)
        ear.undo()
        before = inside(ear)
        for _ in range(2):
            found = (ear[5], len(ear), TIE in ear, ear == ear, ear.free, ear.done, ear.size, journal(ear),
                     ear.book.text, ear.copy().done, ear.tried(lambda held: held.note(1, 1)), hangs(ear.book, 5))
            self.assertEqual(found, (("up", 1, 2), 1, True, True, 7, 2, 12, JOURNAL[:-9],
                                     "size 12\ntie 0 4 4 up 2\nnote 0 5", 2, None, ("up", 1, 2)))
            self.assertEqual(inside(ear), before)

    def test_lines_by_name(self):
        one, other = Desk(JOURNAL), Desk(JOURNAL)
        for line in LINES:
            self.same(one.say(line=line), other.say(line))
            self.assertEqual(inside(one), inside(other))

    def test_what_is_returned_may_be_handed_in_again(self):
        ear = Hearing(12)
        for tie in SONG.ties:
            ear.hear(tie)
        for place, note in SONG.notes:
            ear.note(place, note)
        self.assertEqual(ear.book.text, SONG.text)
        self.assertIs(shows_general(ear.book, general(SONG)), True)
        self.assertIs(shows_fits(ear.book, fits(SONG)), True)
        self.assertIs(shows_why(ear.book, 10, why(SONG, 10)), True)
        found = cheapest(SONG, OFFERS, WISHES)
        self.same(cheapest(SONG, found[2], WISHES)[:3], found[:3])


class Errors(Case):

    def test_each_refusal_can_be_caught_from_above(self):
        for call, _, values in ANY:
            for value in values[:4]:
                with self.assertRaises(TuneError):
                    call(value)


if __name__ == "__main__":
    unittest.main()
