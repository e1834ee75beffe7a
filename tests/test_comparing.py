"""Point 12: whether one book says all that another one says, and whether both say the same."""

import unittest
from random import Random

from turnedtunes.books import Book
from turnedtunes.comparing import alike, within
from turnedtunes.errors import Clash, OtherSize
from turnedtunes.ties import Tie
from tests.helper import FAR, NO_INTEGERS, Case, book_of, drawn_books, drawn_tie, hung, kept_books
from tests.test_hanging import CLASHES, LONG, SONG
from tests.test_intervals import tie_told


def within_told(found, other):
    """What within tells, of what hangs tells by one, and of the lines of other."""
    for number, tie in enumerate(other.ties):
        word, *more = tie_told(found, tie)
        if word == "open":
            return "not", "tie", number, more[0]
    for number, (place, note) in enumerate(other.notes):
        if found[place] != ("told", note):
            return "not", "note", number, 0
    return ("within",)


class Examples(Case):

    def test_of_the_document(self):
        self.same([within(SONG, Book("size 12\ntie 4 8 4 down 11 back")),
                   within(Book("size 12\ntie 0 4 4 up 2"), SONG), alike(SONG, SONG)],
                  [("within",), ("not", "tie", 1, 0), True])


class Within(Case):

    def test_nothing_is_within_all(self):
        for book in (SONG, LONG, Book("size 1")):
            self.same(within(book, Book(f"size {book.size}")), ("within",))
            self.same(within(book, book), ("within",))

    def test_the_first_tie_and_its_first_place_that_do_not_follow(self):
        one = Book("size 12\ntie 0 4 4 up 2")
        for lines, wanted in (
                ("tie 0 4 4 up 2", ("within",)), ("tie 4 0 4 up -2", ("within",)), ("tie 1 5 2 up 2", ("within",)),
                ("tie 0 4 5 up 2", ("not", "tie", 0, 4)), ("tie 0 4 4 up 3", ("not", "tie", 0, 0)),
                ("tie 1 5 7 up 2", ("not", "tie", 0, 3)), ("tie 5 1 7 up -2", ("not", "tie", 0, 3)),
                ("tie 0 4 4 up 2\ntie 0 4 1 up 2\ntie 2 6 5 up 2\ntie 0 4 5 up 2", ("not", "tie", 2, 2)),
                ("tie 0 4 4 up 2 back\ntie 0 9 1 up 5", ("not", "tie", 0, 0)),
                ("tie 0 4 4 up 2\nnote 3 5", ("not", "note", 0, 0)),
                ("tie 0 4 6 up 2\nnote 3 5", ("not", "tie", 0, 4))):
            self.same(within(one, Book(f"size 12\n{lines}")), wanted)
        self.same(within(one=one, other=Book("size 12\ntie 0 4 8 up 2")), ("not", "tie", 0, 4))

    def test_the_first_note_that_does_not_follow(self):
        one = Book("size 6\ntie 0 3 3 up 1\nnote 0 4\nnote 2 9")
        for lines, wanted in (
                ("note 3 5", ("within",)), ("note 5 10\nnote 0 4\nnote 2 9\nnote 3 5", ("within",)),
                ("note 5 10\nnote 0 4\nnote 1 7\nnote 3 6", ("not", "note", 2, 0)),
                ("note 3 6", ("not", "note", 0, 0)), ("note 4 0", ("not", "note", 0, 0)),
                ("tie 0 0 1 down 8\nnote 2 9\nnote 3 4", ("not", "note", 1, 0))):
            self.same(within(one, Book(f"size 6\n{lines}")), wanted)

    def test_drawn_books(self):
        found = {}
        draw = Random(121)
        for one, told in kept_books(seed=121, many=700, greatest=10):
            tune = [what[-1] for what in told]
            ties = [drawn_tie(draw, one.size, draw.choice((tune, tune, tune, None)))
                    for _ in range(draw.randint(0, 4))]
            notes = [(place, what[1] + draw.choice((0, 0, 0, 1))) for place, what in enumerate(told)
                     if what[0] == "told"][:3]
            other = book_of(one.size, ties, notes)
            if hung(other) is None:
                self.refused(Clash, other, within, one, other)
                continue
            wanted = within_told(told, other)
            self.same(within(one, other), wanted)
            self.same(alike(one, other), wanted == ("within",) == within_told(hung(other), one))
            found[wanted[:2]] = found.get(wanted[:2], 0) + 1
        self.assertGreater(min(found[("within",)], found["not", "tie"], found["not", "note"]), 20)

    def test_far_books(self):
        until = 7 * 10 ** 29 + 5
        book = book_of(FAR, [Tie(0, 3, until - 3, 1)])
        self.same(within(LONG, book), ("within",))
        self.same(within(book, LONG), ("not", "tie", 0, until - 3))
        self.same(within(LONG, LONG.with_note(FAR - 1, 3)), ("not", "note", 0, 0))
        self.same(within(LONG.with_note(FAR - 1, FAR // 3), Book(f"size {FAR}\nnote 3 1\nnote 0 0")), ("within",))
        other = book_of(FAR, [Tie(0, 9, FAR - 9, 3), Tie(0, 6, FAR - 6, 2), Tie(0, 3, 9, 1), Tie(9, 4, 2)])
        self.same(within(LONG, other), ("not", "tie", 3, 0))


class Alike(Case):

    def test_ties_told_otherwise(self):
        for one, other in (
                ("tie 0 4 4 up 2", "tie 4 0 4 up -2"),
                ("tie 0 4 4 down 2", "tie 4 0 4 down 2"),
                ("tie 0 4 4 up 2 back", "tie 4 0 4 up -2 back"),
                ("tie 0 4 4 up 2", "tie 0 4 2 up 2\ntie 2 6 2 up 2"),
                ("tie 0 4 4 up 2 back", "tie 2 4 2 up 2 back\ntie 0 6 2 up 2 back"),
                ("tie 0 4 4 up 2\ntie 4 8 4 up 1", "tie 4 8 4 up 1\ntie 0 8 4 up 3"),
                ("tie 0 2 10 up 1", "tie 0 4 8 up 2\ntie 2 4 2 up 1\ntie 0 2 2 up 1"),
                ("tie 0 0 12 down 5 back", "tie 0 6 6 down 5 back"),
                ("tie 3 3 2 down 8", "note 3 4\nnote 4 4"),
                ("tie 0 1 2 up 2\nnote 0 5", "note 0 5\nnote 1 7\nnote 2 9"),
                ("tie 0 0 12 up 0", ""), ("tie 0 1 1 up 0 back", "tie 0 1 1 up 0")):
            books = [Book(f"size 12\n{lines}" if lines else "size 12") for lines in (one, other)]
            self.assertIs(alike(*books), True)
            self.assertIs(alike(*books[::-1]), True)
            self.same((within(*books), within(*books[::-1])), (("within",), ("within",)))

    def test_books_that_say_other_things(self):
        base = Book("size 12\ntie 0 4 4 up 2\nnote 9 1")
        for lines in ("", "tie 0 4 4 up 2", "tie 0 4 4 up 2\nnote 9 2", "tie 0 4 5 up 2\nnote 9 1", "note 9 1",
                      "tie 0 4 3 up 2\nnote 9 1", "tie 0 4 4 up 3\nnote 9 1", "tie 0 4 4 up 2 back\nnote 9 1",
                      "tie 0 4 4 up 2\nnote 9 1\nnote 8 1"):
            other = Book(f"size 12\n{lines}" if lines else "size 12")
            self.assertIs(alike(base, other), False)
            self.assertIs(alike(other, base), False)
        # So many free places in both, and not the same melodies.
        self.assertIs(alike(Book("size 3\ntie 0 1 1 up 0"), Book("size 3\ntie 0 2 1 up 0")), False)
        self.assertIs(alike(one=Book("size 3\nnote 0 1"), other=Book("size 3\nnote 1 1")), False)

    def test_far_books(self):
        for one, other in (
                (LONG, book_of(FAR, [Tie(0, 6, FAR - 6, 2), Tie(3, 0, 99, -1)])),
                (LONG, book_of(FAR, [Tie(0, 3, 10 ** 29, 1), Tie(10 ** 29 - 5, 10 ** 29 - 2, FAR - 10 ** 29 + 2, 1)])),
                (LONG | ~LONG.without(0), LONG),
                (book_of(FAR, [Tie(0, 0, FAR, backward=True), Tie(0, 0, FAR - 7, backward=True)]),
                 book_of(FAR, [Tie(0, 7, FAR - 7), Tie(0, 0, 8, backward=True)]))):
            self.assertIs(alike(one, other), True)
            self.assertIs(alike(other, one), True)
        for other in (LONG.with_note(3, 3), LONG.without(0), book_of(FAR, [Tie(0, 6, FAR - 6, 2)]),
                      book_of(FAR, [Tie(0, 3, FAR - 4, 1)]), book_of(FAR, [Tie(0, 3, FAR - 3, 2)])):
            self.assertIs(alike(LONG, other), False)
            self.assertIs(alike(other, LONG), False)


class Refused(Case):

    def test_other_sizes(self):
        for book in (SONG, CLASHES[0], CLASHES[-1]):
            others = [Book(f"size {size}") for size in (1, book.size - 1, min(book.size + 1, 10 ** 20))]
            for wrong in NO_INTEGERS + (0, book.size, book.text, (book,), [book], *others):
                self.refused(OtherSize, wrong, within, book, wrong)
                self.refused(OtherSize, wrong, alike, book, wrong)
        # The size is looked at ahead of what both say.
        self.refused(OtherSize, CLASHES[1], within, CLASHES[0], CLASHES[1])
        self.refused(OtherSize, CLASHES[1], alike, SONG, CLASHES[1])

    def test_books_that_no_melody_keeps(self):
        for book in CLASHES:
            plain = Book(f"size {book.size}")
            other = plain.with_tie(Tie(0, 0, 1, 1))
            for call in (within, alike):
                self.refused(Clash, book, call, book, plain)
                self.refused(Clash, book, call, plain, book)
                self.refused(Clash, book, call, book, book)
                self.refused(Clash, book, call, book, other)
                self.refused(Clash, other, call, other, book)
        for book in drawn_books(seed=122, many=200):
            if hung(book) is None:
                self.refused(Clash, book, within, Book(f"size {book.size}"), book)
                self.refused(Clash, book, alike, book, Book(f"size {book.size}"))

    def test_a_clash_of_both_together_is_none(self):
        one, other = Book("size 3\nnote 0 1"), Book("size 3\nnote 0 2")
        self.same((within(one, other), alike(one, other)), (("not", "note", 0, 0), False))


if __name__ == "__main__":
    unittest.main()
