"""Point 7: lines that show what a place hangs on, and that a book can, or cannot, be kept."""

import unittest

from turnedtunes.books import Book
from turnedtunes.errors import Clash, NoPlace
from turnedtunes.hanging import hangs
from turnedtunes.lines import fits, shows_fits, shows_why, why
from turnedtunes.melodies import Melody, general, keeps
from turnedtunes.ties import Tie
from tests.helper import FAR, NO_INTEGERS, Case, book_of, drawn_books, hung, kept_books
from tests.test_hanging import CLASHES, FOUR, LONG, SONG

MANY = book_of(
    FAR, [Tie(k, k + step, FAR - step - k * k, 7 * step) for k, step in
          enumerate(6 * (10 ** n + n) for n in (28, 26, 20, 19, 17, 11, 10, 7, 5, 4, 3))]
    + [Tie(5, 5, FAR - 5, 7 * (FAR + 4), down=True, backward=True)])
TREE = book_of(FAR, [Tie(0, 6 * 10 ** 29 + 1, 4 * 10 ** 29 - 1, 5), Tie(0, 4 * 10 ** 29, 6 * 10 ** 29, -8)])
# Values of every kind that are no lines.
NO_LINES = NO_INTEGERS + (0, 1, ((),), ((), ()), (Tie(0, 4, 4, 2),), (("told", 0),), ((Tie(0, 4, 4, 2), "told"),))


def cannot_be(tie):
    """As point 7 says it, word for word."""
    if (tie.first, tie.backward) != (tie.second, False):
        return False
    return (not tie.down and tie.amount != 0) or (tie.down and tie.amount % 2 == 1)


def tie_by(book, ties, reason):
    """The tie that a reason tells by the table of point 7."""
    word, *numbers = reason
    if word == "told":
        return book[numbers[0]]
    if word == "note":
        place, note = book.notes[numbers[0]]
        return Tie(place, place, 1, 2 * note, down=True)
    if word == "back":
        return ~ties[numbers[0]]
    if word == "joined":
        return ties[numbers[0]] >> ties[numbers[1]]
    if word == "times":
        return ties[numbers[0]] * numbers[1]
    if word == "part":
        return ties[numbers[0]].part(*numbers[1:])
    raise AssertionError(reason)


class Lines(Case):

    def followed(self, book, lines):
        """Goes through lines as somebody would who has nothing but the table; returns the last tie."""
        self.assertIs(type(lines), tuple)
        ties = []
        for line in lines:
            self.assertIs(type(line), tuple)
            tie, reason = line
            self.assertIs(type(reason), tuple)
            for number in reason[1:]:
                self.assertIs(type(number), int)
                self.assertGreaterEqual(number, 0)
            self.assertTrue(tie == tie_by(book, ties, reason))
            ties.append(tie)
        return ties[-1]

    def check_why(self, book, place, told):
        """The lines of a place, that it hangs as told; and what shows_why says of them."""
        lines = why(book, place)
        self.assertEqual(why(book, place), lines)
        self.assertIs(shows_why(book, place, lines), True)
        if told == ("up", place, 0):
            self.assertEqual(lines, ())
            return
        wanted = Tie(place, place, 1, 2 * told[-1], down=True)
        if told[0] != "told":
            wanted = Tie(told[1], place, 1, told[2], down=told[0] == "down")
        self.assertTrue(self.followed(book, lines) == wanted)
        self.assertIs(shows_why(book, place, ()), False)
        self.assertIs(shows_why(book, place, list(lines)), False)

    def check_fits(self, book, kept):
        word, shown = fits(book)
        self.assertEqual(word, "fits" if kept else "clash")
        self.assertIs(shows_fits(book, (word, shown)), True)
        if kept:
            self.assertIs(type(shown), Melody)
            self.assertTrue(keeps(book, shown))
            return
        self.assertTrue(cannot_be(self.followed(book, shown)))


class Examples(Lines):

    def test_of_the_document(self):
        self.assertEqual(why(FOUR, 1)[-1][0].text, "0 1 1 up 0")
        self.assertEqual(why(SONG, 2), ())
        self.assertEqual(fits(CLASHES[0])[0], "clash")
        lines = ((Tie(0, 4, 4, 2), ("told", 0)), (Tie(1, 5, 1, 2), ("part", 0, 1, 1)))
        self.assertIs(shows_why(SONG, 5, lines), True)
        self.assertIs(shows_why(book=SONG, place=5, value=lines), True)


class Small(Lines):

    def test_all_places_of_drawn_books(self):
        for book, told in kept_books(seed=71, many=500):
            self.check_fits(book, True)
            for place in range(book.size):
                self.check_why(book, place, told[place])

    def test_drawn_books_that_no_melody_keeps(self):
        clashes = [book for book in drawn_books(seed=72, many=1500) if hung(book) is None]
        self.assertGreater(len(clashes), 200)
        for book in clashes:
            self.check_fits(book, False)

    def test_books_that_cannot_be_kept_by_each_cause(self):
        for book in CLASHES:
            self.check_fits(book, False)

    def test_without_a_melody_no_place_is_shown(self):
        for book in CLASHES:
            self.refused(Clash, book, why, book, 0)
            self.refused(Clash, book, shows_why, book, 0, ())
            self.refused(Clash, book, shows_why, book, 0, None)

    def test_no_places(self):
        for book in (SONG, LONG, CLASHES[0], CLASHES[-1]):
            for wrong in NO_INTEGERS + (-1, book.size, -FAR, 10 ** 40):
                self.refused(NoPlace, wrong, why, book, wrong)
                self.refused(NoPlace, wrong, shows_why, book, wrong, ())


class FarPlaces(Lines):

    def test_lines_of_far_places(self):
        for book in (LONG, MANY, TREE, LONG.with_note(FAR - 1, 4), ~MANY, -TREE):
            self.check_fits(book, True)
            for place in (0, 1, 10 ** 9, FAR // 2, FAR - 2, FAR - 1):
                self.check_why(book, place, hangs(book, place))

    def test_the_lines_of_a_climb_are_few(self):
        self.assertLess(len(why(LONG, FAR - 1)), 5)

    def test_clashes_of_long_books(self):
        # One place more of both climbs than can be, and ties that say other than the many do.
        step, other = 6 * 10 ** 29, 4 * 10 ** 29 + 1
        for book in (book_of(FAR, [Tie(0, step, FAR - step, 5), Tie(0, other - 2, FAR - other + 2, -8)]),
                     MANY.without(3).with_tie(Tie(10 ** 29, 1, 9, -7 * 10 ** 29 + 8)),
                     MANY.with_note(FAR - 3, 7 * FAR), LONG.with_note(0, 0).with_note(FAR - 1, 1)):
            self.check_fits(book, False)


class EachReason(Lines):
    """Lines that are written out here, none of them by the program."""

    def setUp(self):
        self.book = Book("size 12\ntie 0 3 9 up 1\ntie 0 0 12 down 5 back\nnote 4 2")
        book = self.book
        note, rise, mirror = Tie(4, 4, 1, 4, down=True), book[0], book[1]
        self.lines = (
            (rise, ("told", 0)),
            (note, ("note", 0)),
            (mirror, ("told", 1)),
            (~rise, ("back", 0)),
            (rise * 2, ("times", 0, 2)),
            (mirror.part(4, 1), ("part", 2, 4, 1)),
            (~mirror.part(4, 1), ("back", 5)),
            (~mirror.part(4, 1) >> note, ("joined", 6, 1)),
            (~mirror.part(4, 1) >> note >> mirror.part(4, 1), ("joined", 7, 5)),
        )

    def test_right_lines(self):
        self.assertTrue(self.followed(self.book, self.lines) == Tie(7, 7, 1, 6, down=True))
        self.assertIs(shows_why(self.book, 7, self.lines), True)
        # What nothing needs may stand there, too; only the last line counts.
        self.assertIs(shows_why(self.book, 7, self.lines[:1] + self.lines[1:5] + self.lines[5:]), True)
        self.assertIs(shows_why(self.book, 4, self.lines), False)
        self.assertIs(shows_why(self.book, 4, self.lines[1:2]), True)
        more = self.lines + ((self.book[0], ("told", 0)), (self.lines[8][0], ("part", 8, 0, 1)))
        self.assertIs(shows_why(self.book, 7, more), True)
        self.assertIs(shows_why(self.book, 7, more[:-1]), False)

    def test_times_one_and_an_amount_that_is_told_down(self):
        book = Book("size 5\ntie 0 2 3 down 1")
        lines = ((book[0], ("told", 0)), (book[0], ("times", 0, 1)), (Tie(0, 2, 1, 1, down=True), ("part", 1, 0, 1)))
        self.assertIs(shows_why(book, 2, lines), True)
        self.assertIs(shows_why(book, 2, lines[:2] + ((Tie(0, 2, 1, 1), ("part", 1, 0, 1)),)), False)

    def test_wrong_lines(self):
        for at, line in enumerate(self.lines):
            tie, reason = line
            other = Tie(tie.first, tie.second, tie.length, tie.amount + 1, down=tie.down, backward=tie.backward)
            wrong = [(other, reason), (tie.text, reason), (None, reason), [tie, reason], (tie, list(reason)), (tie,),
                     (tie, reason, 0), (tie, (*reason, 0)), (tie, reason[:-1]), (tie, ()), (tie, reason[0]),
                     (tie, None), tie, reason, (reason, tie), (tie, (*reason[:-1], reason[-1] + 99)),
                     (tie, ("because", *reason[1:])), (tie, ("because",)), (tie, reason[:1]), (None, ("told", 99)),
                     (tie, (None, *reason[1:])), (tie, ([], *reason[1:])),
                     (tie, (*reason[:-1], -1)), (tie, (*reason[:-1], str(reason[-1]))),
                     (tie, (*reason[:-1], 10 ** 40)), (tie, (*reason[:-1], None))]
            for number in range(1, len(reason)):
                wrong.append((tie, (*reason[:number], bool(reason[number]), *reason[number + 1:])))
            for one in wrong:
                value = self.lines[:at] + (one,) + self.lines[at + 1:]
                self.assertIs(shows_why(self.book, 7, value), False, (at, one))

    def test_numbers_of_lines_that_are_not_ahead(self):
        rise = self.book[0]
        for reason in (("back", 0), ("part", 0, 0, 9), ("times", 0, 1), ("joined", 0, 0), ("part", 1, 0, 9)):
            value = ((rise, reason), *self.lines)
            self.assertIs(shows_why(self.book, 7, value), False)
        value = ((rise, ("told", 0)), (~rise, ("back", 2)), (rise, ("told", 0)), *self.lines)
        self.assertIs(shows_why(self.book, 7, value), False)

    def test_reasons_that_tell_no_tie(self):
        rise, last = self.book[0], (self.lines[8][0], ("part", 8, 0, 1))
        self.assertIs(shows_why(self.book, 7, (*self.lines, (rise, ("told", 0)), last)), True)
        for reason in (("told", 2), ("note", 1), ("back", 9), ("times", 0, 0), ("times", 0, 4), ("times", 0, FAR + 1),
                       ("part", 0, 0, 0), ("part", 0, 1, 9), ("part", 0, 9, 1), ("joined", 5, 1), ("joined", 1, 5)):
            for tie in (rise, self.lines[1][0]):
                self.assertIs(shows_why(self.book, 7, (*self.lines, (tie, reason), last)), False)

    def test_a_free_place_has_no_line(self):
        self.assertIs(shows_why(SONG, 1, ()), True)
        for wrong in NO_LINES + (((SONG[0], ("told", 0)),), ((Tie(1, 1, 1), ("told", 0)),)):
            if wrong != ():
                self.assertIs(shows_why(SONG, 1, wrong), False)
        book = Book("size 2\ntie 0 0 1 up 0")
        self.assertIs(shows_why(book, 0, ((book[0], ("told", 0)),)), False)

    def test_what_is_no_tuple_of_lines(self):
        for place in (0, 5):
            for wrong in NO_LINES:
                self.assertIs(shows_why(SONG, place, wrong), False)

    def test_the_way_and_the_least_place_count(self):
        book = Book("size 6\ntie 0 2 4 up 3")
        lines = ((book[0], ("told", 0)), (Tie(2, 4, 1, 3), ("part", 0, 2, 1)))
        self.assertIs(shows_why(book, 4, lines), False)
        lines = lines + ((book[0] * 2, ("times", 0, 2)), (Tie(0, 4, 1, 6), ("part", 2, 0, 1)))
        self.assertIs(shows_why(book, 4, lines), True)
        self.assertIs(shows_why(book, 4, lines + ((Tie(4, 0, 1, -6), ("back", 3)),)), False)


class ShowsFits(Lines):

    def test_any_melody_that_keeps_the_book(self):
        book = Book("size 4\ntie 0 2 2 up 1")
        for pieces in ((("new", 2), ("copy", 0, 2, 1, False, False)), (("notes", 2, 5), ("notes", 2, 6)),
                       (("new", 1), ("copy", 0, 1, 7, True, False), ("copy", 0, 2, 1, False, False))):
            self.assertIs(shows_fits(book, ("fits", Melody(pieces))), True)
            self.assertIs(shows_fits(book, ["fits", Melody(pieces)]), False)
            self.assertIs(shows_fits(book, ("clash", Melody(pieces))), False)
        for pieces in ((("new", 4),), (("notes", 4, 5),), (("new", 2), ("copy", 0, 3, 1, False, False)),
                       (("new", 2), ("copy", 0, 2, 1, False, True))):
            self.assertIs(shows_fits(book, ("fits", Melody(pieces))), False)
        self.assertIs(shows_fits(book=LONG, value=("fits", general(LONG))), True)
        self.assertIs(shows_fits(LONG.with_note(0, 0), ("fits", general(LONG))), False)

    def test_ties_that_cannot_be(self):
        for line, cannot in (("tie 0 0 3 up 1", True), ("tie 0 0 3 up 0", False), ("tie 0 0 3 down 1", True),
                             ("tie 0 0 3 down 2", False), ("tie 0 0 3 down -1", True), ("tie 0 0 3 up -2", True),
                             ("tie 0 0 3 up 1 back", False), ("tie 0 0 1 up 1 back", True),
                             ("tie 0 0 3 down 1 back", False), ("tie 0 1 3 up 1", False)):
            book = Book(f"size 4\n{line}")
            self.assertIs(shows_fits(book, ("clash", ((book[0], ("told", 0)),))), cannot)

    def test_the_last_line_of_a_clash_counts(self):
        book = Book("size 4\ntie 0 0 3 up 1\ntie 0 1 3 up 1")
        lines = ((book[0], ("told", 0)), (book[1], ("told", 1)))
        self.assertIs(shows_fits(book, ("clash", lines)), False)
        self.assertIs(shows_fits(book, ("clash", lines[::-1])), True)
        self.assertIs(shows_fits(book, ("clash", (lines[1], (book[0], ("told", 1))))), False)
        self.assertIs(shows_fits(book, ("clash", list(lines[::-1]))), False)
        self.assertIs(shows_fits(book, ["clash", lines[::-1]]), False)
        self.assertIs(shows_fits(book, ("clash", lines[::-1], 0)), False)
        for word in ("fits", "clashes", "", None, True):
            self.assertIs(shows_fits(book, (word, lines[::-1])), False)

    def test_any_other_value(self):
        for book in (SONG, CLASHES[0]):
            for wrong in NO_LINES:
                self.assertIs(shows_fits(book, wrong), False)
                self.assertIs(shows_fits(book, ("clash", wrong)), False)
                self.assertIs(shows_fits(book, ("fits", wrong)), False)
                self.assertIs(shows_fits(book, (wrong, general(SONG))), False)
            self.assertIs(shows_fits(book, ("clash", ())), False)
            self.assertIs(shows_fits(book, ("fits",)), False)
            self.assertIs(shows_fits(book, ("clash",)), False)
        self.assertIs(shows_fits(CLASHES[0], ("fits", Melody((("new", 5),)))), False)


if __name__ == "__main__":
    unittest.main()
