"""Point 5: books together, side by side, turned about; points 3 (d) and (e) of these."""

import unittest
from itertools import product
from random import Random

from turnedtunes.books import Book
from turnedtunes.errors import BadSize, Full, OtherNote, OtherSize
from turnedtunes.ties import Tie
from tests.helper import FAR, Case, keeps, small_ties

TIES = [f"tie {k} 0 1 up {k}" for k in range(12)]
NOTES = [f"note {k} {-k}" for k in range(12)]


def text(*lines):
    return "\n".join(lines)


def some_books(many, size):
    """Small books of different kinds, always the same ones."""
    random = Random(7)
    ties = [tie for tie in small_ties(places=size, lengths=range(1, size + 1), amounts=(-1, 0, 2))
            if max(tie.first, tie.second) + tie.length <= size]
    for _ in range(many):
        book = Book(f"size {size}")
        for tie in random.sample(ties, random.randint(0, 3)):
            book = book.with_tie(tie)
        for place in random.sample(range(size), random.randint(0, 2)):
            book = book.with_note(place, random.randint(-1, 2))
        yield book


def melodies(size):
    return product(range(-3, 4), repeat=size)


class Together(Case):

    def test_those_of_one_then_what_it_does_not_have(self):
        one = Book(text("size 12", TIES[1], TIES[0], NOTES[3], NOTES[0]))
        other = Book(text("size 12", TIES[2], TIES[1], TIES[3], NOTES[0], NOTES[5], NOTES[1]))
        self.assertEqual((one | other).text, text(
            "size 12", TIES[1], TIES[0], TIES[2], TIES[3], NOTES[3], NOTES[0], NOTES[5], NOTES[1]))
        self.assertEqual((other | one).text, text(
            "size 12", TIES[2], TIES[1], TIES[3], TIES[0], NOTES[0], NOTES[5], NOTES[1], NOTES[3]))

    def test_as_often_as_they_stand_there(self):
        one = Book(text("size 12", TIES[1], TIES[1]))
        other = Book(text("size 12", TIES[2], TIES[1], TIES[2]))
        self.assertEqual((one | other).text, text("size 12", TIES[1], TIES[1], TIES[2], TIES[2]))

    def test_equal_ties_in_other_words(self):
        one, other = Book("size 3\ntie 0 1 1 up 2"), Book("size 3\ntie 0 1 1 up 2 back")
        self.assertEqual((one | other).text, one.text)
        self.assertEqual((other | one).text, one.text)

    def test_other_sizes(self):
        one = Book("size 4")
        for other in (Book("size 3"), Book("size 5"), Book(f"size {FAR}")):
            self.refused(OtherSize, other, lambda: one | other)

    def test_other_notes(self):
        one = Book("size 4\nnote 0 1\nnote 1 2\nnote 2 0")
        other = Book("size 4\nnote 3 3\nnote 2 0\nnote 1 4\nnote 0 9")
        self.refused(OtherNote, (1, 4), lambda: one | other)
        self.refused(OtherNote, (0, 1), lambda: other | one)
        self.assertEqual((one | Book("size 4\nnote 2 0")).notes, one.notes)
        self.assertEqual((one | Book("size 4\nnote 3 0")).notes, one.notes + ((3, 0),))

    def test_no_more_than_twelve(self):
        one = Book(text("size 12", *TIES[:7], *NOTES[:7]))
        self.assertEqual((one | Book(text("size 12", *TIES, *NOTES))).text, text("size 12", *TIES, *NOTES))
        self.refused(Full, 12, lambda: one | Book(text("size 12", *TIES[6:], "tie 0 1 1 up 0")))
        more = text("size 13", *NOTES[6:], "note 12 5")
        self.refused(Full, 12, lambda: Book(text("size 13", *NOTES[:7])) | Book(more))

    def test_the_sequence_of_errors(self):
        full = Book(text("size 12", *TIES, *NOTES))
        self.refused(OtherSize, Book("size 13\nnote 0 5"), lambda: full | Book("size 13\nnote 0 5"))
        self.refused(OtherNote, (0, 5), lambda: full | Book("size 12\ntie 0 0 2 up 0\nnote 0 5"))

    def test_a_melody_keeps_it_that_keeps_both(self):
        books = list(some_books(40, 3))
        for one, other in zip(books[:20], books[20:]):
            try:
                both = one | other
            except OtherNote:
                continue
            for melody in melodies(3):
                self.assertEqual(keeps(both, melody), keeps(one, melody) and keeps(other, melody))


class SideBySide(Case):

    def test_those_of_one_then_those_of_other_moved(self):
        one = Book("size 5\ntie 0 3 2 up 1\nnote 4 7")
        other = Book("size 4\ntie 2 0 2 down -3 back\ntie 0 3 1 up 6 back\nnote 0 1\nnote 3 -2")
        self.assertEqual((one + other).text, text(
            "size 9", "tie 0 3 2 up 1", "tie 7 5 2 down -3 back", "tie 5 8 1 up 6", "note 4 7", "note 5 1",
            "note 8 -2"))
        self.assertEqual((other + one).text, text(
            "size 9", "tie 2 0 2 down -3 back", "tie 0 3 1 up 6", "tie 4 7 2 up 1", "note 0 1", "note 3 -2",
            "note 8 7"))

    def test_the_greatest_size(self):
        one, other = Book(f"size {FAR - 4}"), Book("size 4\ntie 0 0 4 up 0\nnote 3 1")
        self.assertEqual((one + other).text, f"size {FAR}\ntie {FAR - 4} {FAR - 4} 4 up 0\nnote {FAR - 1} 1")
        self.assertEqual((other + one).size, FAR)
        self.refused(BadSize, FAR + 1, lambda: one + Book("size 5"))
        self.refused(BadSize, 2 * FAR, lambda: Book(f"size {FAR}") + Book(f"size {FAR}"))

    def test_no_more_than_twelve(self):
        ties, notes = Book(text("size 12", *TIES[:7])), Book(text("size 12", *NOTES[:7]))
        self.assertEqual(len(ties + Book(text("size 12", *TIES[:5]))), 12)
        self.assertEqual(len((notes + Book(text("size 12", *NOTES[:5]))).notes), 12)
        self.refused(Full, 12, lambda: ties + Book(text("size 12", *TIES[:6])))
        self.refused(Full, 12, lambda: notes + Book(text("size 12", *NOTES[:6])))
        self.assertEqual(len((ties + notes).notes), 7)

    def test_the_size_comes_ahead_of_full(self):
        full = Book(text(f"size {FAR}", *TIES))
        self.refused(BadSize, 2 * FAR, lambda: full + full)

    def test_a_melody_keeps_it_whose_halves_keep_them(self):
        for one, other in zip(some_books(12, 2), some_books(12, 3)):
            both = one + other
            for first, second in product(melodies(2), product(range(-1, 3), repeat=3)):
                self.assertEqual(keeps(both, first + second), keeps(one, first) and keeps(other, second))


class TurnedAbout(Case):

    def test_in_time(self):
        book = Book("size 20\ntie 0 12 8 up 3\ntie 1 5 4 down 6 back\ntie 19 0 1 up 5 back\nnote 0 5\nnote 19 -2")
        self.assertEqual((~book).text, text(
            "size 20", "tie 12 0 8 up 3", "tie 15 11 4 down 6 back", "tie 0 19 1 up 5", "note 19 5", "note 0 -2"))
        self.assertEqual((~Book(f"size {FAR}\ntie 0 3 {FAR - 3} up 1\nnote 1 1")).text,
                         f"size {FAR}\ntie 3 0 {FAR - 3} up 1\nnote {FAR - 2} 1")
        self.assertEqual((~Book("size 1")).text, "size 1")

    def test_upside_down(self):
        book = Book("size 20\ntie 0 12 8 up 3\ntie 1 5 4 down -6 back\ntie 19 0 1 up 0 back\nnote 0 5\nnote 19 0")
        self.assertEqual((-book).text, text(
            "size 20", "tie 0 12 8 up -3", "tie 1 5 4 down 6 back", "tie 19 0 1 up 0", "note 0 -5", "note 19 0"))

    def test_twice_it_is_the_book(self):
        for book in some_books(40, 3):
            self.assertTrue(~~book == book)
            self.assertTrue(-(-book) == book)
            self.assertTrue(-(~book) == ~(-book))

    def test_a_melody_keeps_it_that_keeps_the_book_turned_about(self):
        for book in some_books(40, 3):
            for melody in melodies(3):
                wanted = keeps(book, melody)
                self.assertEqual(keeps(~book, melody[::-1]), wanted)
                self.assertEqual(keeps(-book, tuple(-note for note in melody)), wanted)


class Unchanged(Case):

    def test_no_call_changes_a_book(self):
        one = Book("size 4\ntie 0 1 1 up 2 back\ntie 0 1 3 up 1\nnote 0 5")
        other = Book("size 4\ntie 0 1 3 down 1\nnote 1 5")
        before = one.text, one.ties, one.notes, other.text, other.ties, other.notes
        found = [one | other, one + other, ~one, -one, one.with_tie(Tie(0, 0, 1)), one.without(0), one.with_note(1, 1)]
        again = [one | other, one + other, ~one, -one, one.with_tie(Tie(0, 0, 1)), one.without(0), one.with_note(1, 1)]
        self.assertEqual(found, again)
        for call in (lambda: one | Book("size 5"), lambda: one | Book("size 4\nnote 0 6"), lambda: one.with_tie(5),
                     lambda: one + Book(f"size {FAR}"), lambda: one.without(2), lambda: one.with_note(0, 5),
                     lambda: one[2], lambda: one.with_note(1, None)):
            self.assertRaises(ValueError, call)
        self.assertEqual((one.text, one.ties, one.notes, other.text, other.ties, other.notes), before)


class Example(Case):

    def test_as_it_stands(self):
        song = Book('size 12\ntie 0 4 4 up 2\ntie 0 8 4 down 9 back\nnote 0 5')
        self.assertEqual(
            [song.size, len(song), song.notes, (~song).text.split('\n')[1:], (-song).text.split('\n')[2:]],
            [12, 2, ((0, 5),), ['tie 8 4 4 up 2', 'tie 8 0 4 down 9 back', 'note 11 5'],
             ['tie 0 8 4 down -9 back', 'note 0 -5']])


if __name__ == "__main__":
    unittest.main()
