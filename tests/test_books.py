"""Point 5: the lines of a book, its properties, and books with a line more or less."""

import unittest

from turnedtunes.books import Book
from turnedtunes.errors import BadBook, BadNote, BadTie, Full, NoPlace, NoTie
from turnedtunes.ties import Tie
from tests.helper import FAR, NO_INTEGERS, NO_STRINGS, Case, six

TIES = [f"tie {k} 0 1 up {k}" for k in range(12)]
NOTES = [f"note {k} {-k}" for k in range(12)]
SONG = "size 12\ntie 0 4 4 up 2\ntie 0 8 4 down 9 back\nnote 0 5"


def text(*lines):
    return "\n".join(lines)


class Lines(Case):

    def test_a_size_alone(self):
        for size in (1, 7, FAR):
            book = Book(f"size {size}")
            self.same((book.text, book.size, book.ties, book.notes, len(book)), (f"size {size}", size, (), (), 0))
        self.assertEqual(Book(text="size 5").size, 5)

    def test_ties_and_notes_in_the_order_of_the_text(self):
        book = Book(text("size 9", "tie 3 1 2 up -4", "tie 0 5 4 down 6 back", "tie 3 1 2 up -4", "note 8 -1",
                         "note 2 0"))
        self.same([six(tie) for tie in book.ties],
                  [(3, 1, 2, -4, False, False), (0, 5, 4, 6, True, True), (3, 1, 2, -4, False, False)])
        self.same(book.notes, ((8, -1), (2, 0)))
        self.assertIs(type(book.ties), tuple)
        self.assertEqual(len(book), 3)

    def test_the_text_stays_as_it_was_handed_in(self):
        one = text("size 9", "tie 3 1 1 up -4 back")
        self.assertEqual(Book(one).text, one)
        self.assertEqual(Book(one).ties[0].text, "3 1 1 up -4")

    def test_notes_without_ties(self):
        self.same(Book(text("size 1", "note 0 -3")).notes, ((0, -3),))

    def test_twelve_of_each(self):
        book = Book(text("size 12", *TIES, *NOTES))
        self.assertEqual((len(book), len(book.notes)), (12, 12))
        self.assertEqual([tie.amount for tie in book.ties], list(range(12)))

    def test_thirteen_of_each(self):
        self.refused(BadBook, 14, Book, text("size 13", *TIES, "tie 0 0 1 up 0"))
        self.refused(BadBook, 14, Book, text("size 13", *TIES, "tie 0 0 1 up 0", *NOTES))
        self.refused(BadBook, 14, Book, text("size 13", *NOTES, "note 12 0"))
        self.refused(BadBook, 26, Book, text("size 13", *TIES, *NOTES, "note 12 0"))
        self.refused(BadBook, 14, Book, text("size 13", *TIES, "tie 0 0 1 up 0", "nonsense"))

    def test_what_is_no_string(self):
        for wrong in NO_STRINGS + (["size 4"], ("size 4",)):
            self.refused(BadBook, 0, Book, wrong)

    def test_the_first_line(self):
        for line in ("", "size", "size ", "size 0", "size -1", f"size {FAR + 1}", "size  4", " size 4", "size 4 ",
                     "size 4 4", "size 04", "size +4", "size four", "size 4.0", "Size 4", "4", "size\t4", "sizes 4",
                     "size 4\r", "tie 0 0 1 up 0", "note 0 0", "size True", "size \u0664"):
            self.refused(BadBook, 1, Book, line)
            self.refused(BadBook, 1, Book, text(line, "size 4"))
            self.refused(BadBook, 1, Book, text(line, "nonsense"))

    def test_lines_that_have_no_form(self):
        for line in ("", " ", "tie", "tie ", "note", "note ", "note 0", "note 0 0 0", "nonsense", "size 4",
                     "ties 0 0 1 up 0", "notes 0 0", "Tie 0 0 1 up 0", "Note 0 0", " tie 0 0 1 up 0",
                     "tie  0 0 1 up 0", "tie 0 0 1 up 0 ", "tie 0 0 1 up", "tie 0 0 1 up 0 up", "tie 0 0 1 up 00",
                     "tie\t0 0 1 up 0", "0 0 1 up 0", "note  0 0", "note 0  0", "note 0 0 ", " note 0 0",
                     "note 00 0", "note 0 00", "note 0 -0", "note 0 +1", "note 0 x", "note x 0", "note 0 1.0",
                     "note 0 None", "hear 0 0 1 up 0", "# size", "tie 0 0 1 up 0\r", "note 0 1\r"):
            self.refused(BadBook, 2, Book, text("size 4", line))
            self.refused(BadBook, 3, Book, text("size 4", "tie 0 1 2 up 0", line, "tie 0 1 2 up 0"))
            self.refused(BadBook, 3, Book, text("size 4", "note 3 0", line, "note 1 0"))

    def test_ties_within_the_size(self):
        for line in ("tie 0 4 4 up 2", "tie 4 0 4 up 2 back", "tie 7 7 1 up 0", "tie 0 0 8 up 0", "tie 0 4 4 up 2"):
            self.assertEqual(len(Book(text("size 8", line))), 1)
        for line in ("tie 0 5 4 up 2", "tie 5 0 4 up 2 back", "tie 8 0 1 up 0", "tie 0 8 1 up 0", "tie 0 0 9 up 0",
                     "tie -1 0 1 up 0", "tie 0 0 0 up 0", f"tie 0 0 {FAR} up 0"):
            self.refused(BadBook, 2, Book, text("size 8", line))
        far = text(f"size {FAR}", f"tie 0 3 {FAR - 3} up 1", f"tie 0 0 {FAR} down 1 back", f"note {FAR - 1} {-FAR}")
        self.assertEqual((len(Book(far)), Book(far).notes), (2, ((FAR - 1, -FAR),)))

    def test_notes_within_the_size(self):
        self.same(Book(text("size 8", "note 0 1", "note 7 1")).notes, ((0, 1), (7, 1)))
        for line in ("note 8 1", "note -1 1", f"note {FAR} 1"):
            self.refused(BadBook, 2, Book, text("size 8", line))

    def test_no_place_twice(self):
        self.refused(BadBook, 4, Book, text("size 8", "note 3 1", "note 4 1", "note 3 1"))
        self.refused(BadBook, 3, Book, text("size 8", "note 3 1", "note 3 2", "note 3 3"))

    def test_an_empty_last_line(self):
        self.refused(BadBook, 2, Book, "size 8\n")
        self.refused(BadBook, 3, Book, "size 8\ntie 0 1 2 up 3\n")
        self.refused(BadBook, 4, Book, "size 8\ntie 0 1 2 up 3\nnote 0 0\n")
        self.refused(BadBook, 1, Book, "\nsize 8")
        self.refused(BadBook, 1, Book, "")

    def test_the_wrong_order_of_lines(self):
        self.refused(BadBook, 3, Book, text("size 8", "note 0 0", "tie 0 1 2 up 3"))
        self.refused(BadBook, 4, Book, text("size 8", "tie 0 1 2 up 3", "note 0 0", "tie 0 1 2 up 3", "note 1 0"))
        self.refused(BadBook, 2, Book, text("size 8", "size 8"))
        self.refused(BadBook, 4, Book, text("size 8", "tie 0 1 2 up 3", "note 0 0", "size 8"))
        self.refused(BadBook, 1, Book, text("tie 0 1 2 up 3", "size 8"))

    def test_the_first_of_two_wrong_lines(self):
        self.refused(BadBook, 2, Book, text("size 8", "note 9 0", "tie 0 1 20 up 3"))
        self.refused(BadBook, 1, Book, text("size 0", "nonsense"))

    def test_other_ends_of_lines(self):
        self.refused(BadBook, 1, Book, "size 8\r\nnote 0 0")
        self.refused(BadBook, 1, Book, "size 8\x0bnote 0 0")
        self.refused(BadBook, 2, Book, "size 8\nnote 0 0\u2028note 1 0")


class Asking(Case):

    def test_a_tie_by_its_number(self):
        book = Book(SONG)
        self.assertEqual([book[0].text, book[1].text], ["0 4 4 up 2", "0 8 4 down 9 back"])
        for wrong in NO_INTEGERS + (2, -1, -2, FAR):
            self.refused(NoTie, wrong, lambda: book[wrong])
        self.refused(NoTie, 0, lambda: Book("size 8")[0])

    def test_whether_a_value_is_a_tie_of_it(self):
        book = Book(SONG)
        self.assertIs(Tie(0, 4, 4, 2) in book, True)
        self.assertIs(Tie(0, 8, 4, 9, down=True, backward=True) in book, True)
        self.assertIs(book[1] in book, True)
        for other in NO_INTEGERS + (0, 1, 5, "tie 0 4 4 up 2", "0 4 4 up 2", SONG, (0, 5), book, [book[0]],
                                    (0, 4, 4, 2, False, False), Tie(0, 4, 4, 3), Tie(0, 8, 4, 9, down=True)):
            self.assertIs(other in book, False)

    def test_equal_by_their_texts(self):
        self.assertTrue(Book(SONG) == Book(SONG))
        self.assertFalse(Book(SONG) != Book(SONG))
        for other in (Book("size 12"), Book(SONG.replace("size 12", "size 13")), Book(SONG.replace("up 2", "up 3")),
                      Book(SONG.replace("note 0 5", "note 0 6"))):
            self.assertFalse(Book(SONG) == other)
            self.assertTrue(Book(SONG) != other)

    def test_equal_ties_in_other_words(self):
        one, other = Book("size 3\ntie 0 1 1 up 2 back"), Book("size 3\ntie 0 1 1 up 2")
        self.assertEqual(one.ties, other.ties)
        self.assertFalse(one == other)

    def test_nothing_else_is_equal(self):
        book = Book("size 4")
        for other in [value for value in NO_STRINGS if not isinstance(value, Book)] + ["size 4", 4]:
            self.assertIs(book == other, False)
            self.assertIs(other == book, False)


class More(Case):

    def test_a_tie_more(self):
        book = Book(SONG).with_tie(Tie(2, 0, 10, -1, backward=True))
        self.assertEqual(book.text, SONG.replace("\nnote", "\ntie 2 0 10 up -1 back\nnote"))
        self.assertEqual(Book("size 3").with_tie(tie=Tie(0, 0, 3)).text, "size 3\ntie 0 0 3 up 0")
        self.assertEqual(book.with_tie(book[0]).ties.count(book[0]), 2)

    def test_what_is_no_tie_within_the_size(self):
        others = [value for value in NO_INTEGERS if not isinstance(value, Tie)] + [0, -1, FAR, "0 0 1 up 0"]
        for wrong in others + [Tie(0, 9, 4), Tie(9, 0, 4), Tie(0, 0, 13), Tie(12, 0, 1), Tie(0, 12, 1)]:
            self.refused(BadTie, wrong, Book(SONG).with_tie, wrong)
        for right in (Tie(0, 8, 4), Tie(8, 0, 4), Tie(0, 0, 12), Tie(11, 0, 1)):
            self.assertIn(right, Book(SONG).with_tie(right))

    def test_no_more_than_twelve_ties(self):
        book = Book(text("size 12", *TIES[:11]))
        full = book.with_tie(Tie(11, 0, 1, 11))
        self.assertEqual(full.text, text("size 12", *TIES))
        self.refused(Full, 12, full.with_tie, Tie(0, 0, 1))
        self.refused(BadTie, None, full.with_tie, None)
        self.refused(BadTie, Tie(12, 0, 1), full.with_tie, Tie(12, 0, 1))

    def test_a_tie_less(self):
        book = Book(text("size 12", *TIES[:3], *NOTES))
        self.assertEqual(book.without(0).text, text("size 12", TIES[1], TIES[2], *NOTES))
        self.assertEqual(book.without(1).text, text("size 12", TIES[0], TIES[2], *NOTES))
        self.assertEqual(book.without(number=2).text, text("size 12", TIES[0], TIES[1], *NOTES))
        for wrong in NO_INTEGERS + (3, -1, FAR):
            self.refused(NoTie, wrong, book.without, wrong)
        self.refused(NoTie, 0, Book("size 12").without, 0)

    def test_only_the_tie_with_this_number_goes(self):
        book = Book(text("size 12", TIES[0], TIES[1], TIES[0]))
        self.assertEqual(book.without(0).text, text("size 12", TIES[1], TIES[0]))

    def test_a_note_more(self):
        book = Book(SONG).with_note(11, -7)
        self.assertEqual(book.text, SONG + "\nnote 11 -7")
        self.assertEqual(book.with_note(note=FAR, place=3).text, SONG + f"\nnote 11 -7\nnote 3 {FAR}")
        self.same(Book("size 1").with_note(0, 0).notes, ((0, 0),))

    def test_places_for_a_note(self):
        for wrong in NO_INTEGERS + (12, -1, FAR, 0):
            self.refused(NoPlace, wrong, Book(SONG).with_note, wrong, 5)

    def test_what_is_no_note(self):
        for wrong in NO_INTEGERS:
            self.refused(BadNote, wrong, Book(SONG).with_note, 1, wrong)

    def test_no_more_than_twelve_notes(self):
        book = Book(text("size 13", *NOTES[:11]))
        full = book.with_note(11, -11)
        self.assertEqual(full.text, text("size 13", *NOTES))
        self.refused(Full, 12, full.with_note, 12, 0)
        self.refused(BadNote, None, full.with_note, 12, None)
        self.refused(NoPlace, 11, full.with_note, 11, None)
        self.refused(NoPlace, 13, full.with_note, 13, 0)

    def test_what_is_returned_is_written_anew(self):
        book = Book("size 3\ntie 0 1 1 up 2 back\nnote 0 1")
        self.assertEqual(book.with_tie(Tie(0, 0, 1)).text, "size 3\ntie 0 1 1 up 2\ntie 0 0 1 up 0\nnote 0 1")
        self.assertEqual(book.with_note(1, 1).text, "size 3\ntie 0 1 1 up 2\nnote 0 1\nnote 1 1")
        self.assertEqual(book.with_tie(Tie(0, 0, 1)).without(1).text, "size 3\ntie 0 1 1 up 2\nnote 0 1")

    def test_ties_and_notes_of_any_size_that_came_of_ties(self):
        tie, many = Tie(0, 0, 1, 1), 10 ** 6000
        for _ in range(200):
            tie = tie * FAR
        book = Book("size 1").with_tie(tie).with_note(0, many)
        self.assertEqual((book[0].amount, book.notes), (many, ((0, many),)))
        self.assertEqual(((-book)[0].amount, (-book).notes), (-many, ((0, -many),)))


if __name__ == "__main__":
    unittest.main()
