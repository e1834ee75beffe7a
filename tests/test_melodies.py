"""Point 8: melodies in general form, which of them keep a book, and one by which all are got."""

import unittest
from random import Random

from turnedtunes.books import Book
from turnedtunes.errors import BadLength, BadNote, BadPieces, Clash, NoPlace
from turnedtunes.hanging import free
from turnedtunes.melodies import Melody, general, keeps, shows_general
from turnedtunes.ties import Tie
from tests.helper import FAR, NO_BOOLS, NO_INTEGERS, Case, book_of, drawn_books, drawn_tie, hung, lead_on
from tests.helper import keeps as list_keeps
from tests.helper import kept_books, melody_by
from tests.test_hanging import CLASHES, FOUR, LONG, SONG

SMALL = Melody((("new", 2), ("copy", 0, 4, 1, False, False), ("copy", 0, 2, 9, True, True)))


def each_place(pieces):
    """What is at each place of a small melody, place by place: ("told", note) or (word, k, c)."""
    found, new = [], 0
    for word, *rest in pieces:
        if word == "new":
            found += [("up", new + k, 0) for k in range(rest[0])]
            new += rest[0]
        elif word == "notes":
            found += [("told", rest[1])] * rest[0]
        else:
            first, length, amount, down, backward = rest
            here = len(found)
            for k in range(length):
                found.append(copied(found[first + length - 1 - k if backward else first + k], amount, down))
            assert len(found) == here + length
    return found


def copied(what, amount, down):
    if what[0] == "told":
        return "told", amount - what[1] if down else amount + what[1]
    more, sign = lead_on((what[2], 1 if what[0] == "up" else -1), (amount, -1 if down else 1))
    return "up" if sign == 1 else "down", what[1], more


def drawn_pieces(draw, most=6, longest=6):
    pieces, here = [], 0
    for _ in range(draw.randint(1, most)):
        length = draw.randint(1, longest)
        kind = draw.choice(("new", "notes", "copy", "copy", "copy")) if here else draw.choice(("new", "notes"))
        if kind == "new":
            pieces.append((kind, length))
        elif kind == "notes":
            pieces.append((kind, length, draw.randint(-3, 3)))
        else:
            first, backward = draw.randint(0, here - 1), draw.random() < .4
            length = min(length, here - first) if backward else length
            pieces.append((kind, first, length, draw.randint(-3, 3), draw.random() < .4, backward))
        here += length
    return tuple(pieces)


def divided(draw, pieces):
    """Other pieces that are alike at each place."""
    found = []
    for piece in pieces:
        length = piece[2] if piece[0] == "copy" else piece[1]
        part = draw.randint(0, length)
        if part in (0, length):
            found.append(piece)
        elif piece[0] == "copy":
            _, first, _, *rest, backward = piece
            starts = (first + length - part, first) if backward else (first, first + part)
            found += [("copy", starts[0], part, *rest, backward), ("copy", starts[1], length - part, *rest, backward)]
        else:
            found += [(piece[0], part, *piece[2:]), (piece[0], length - part, *piece[2:])]
    return tuple(found)


def whole(found, size):
    return [found[place] for place in range(size)]


class Examples(Case):

    def test_of_the_document(self):
        self.same((SMALL.size, SMALL[4], SMALL[6], SMALL.played(lambda k: 10 * k, 3, 5)),
                  (8, ("up", 0, 2), ("down", 1, 9), (11, 2, 12, -1, 9)))
        self.assertIs(keeps(Book("size 8\ntie 0 2 4 up 1"), SMALL), True)
        self.assertIs(keeps(Book("size 8\ntie 0 2 5 up 1"), SMALL), False)
        self.same(general(LONG).new, 3)


class Pieces(Case):

    def test_properties(self):
        pieces = (("notes", 2, -7), ("new", 3), ("copy", 1, 9, 0, False, False), ("new", 1))
        melody = Melody(pieces)
        self.assertIs(melody.pieces, pieces)
        self.same((melody.size, melody.new), (15, 4))
        self.same((Melody(pieces=(("notes", 5, 0),)).size, Melody((("notes", 5, 0),)).new), (5, 0))

    def test_new_places_are_numbered(self):
        melody = Melody((("new", 2), ("notes", 1, 4), ("new", 1), ("new", 2)))
        self.same(whole(melody, 6), [("up", 0, 0), ("up", 1, 0), ("told", 4), ("up", 2, 0), ("up", 3, 0), ("up", 4, 0)])

    def test_a_straight_copy_into_itself(self):
        melody = Melody((("new", 2), ("copy", 0, 5, 3, False, False)))
        self.same(whole(melody, 7), [("up", 0, 0), ("up", 1, 0), ("up", 0, 3), ("up", 1, 3), ("up", 0, 6), ("up", 1, 6),
                                     ("up", 0, 9)])
        melody = Melody((("new", 2), ("copy", 1, 4, 3, True, False)))
        self.same(whole(melody, 6), [("up", 0, 0), ("up", 1, 0), ("down", 1, 3), ("up", 1, 0), ("down", 1, 3),
                                     ("up", 1, 0)])

    def test_a_backward_copy(self):
        melody = Melody((("new", 3), ("copy", 0, 3, 1, False, True), ("copy", 4, 2, 5, True, True)))
        self.same(whole(melody, 8), [("up", 0, 0), ("up", 1, 0), ("up", 2, 0), ("up", 2, 1), ("up", 1, 1), ("up", 0, 1),
                                     ("down", 0, 4), ("down", 1, 4)])

    def test_pieces_of_one_place(self):
        for backward in (False, True):
            melody = Melody((("new", 1), ("notes", 1, 2), ("copy", 0, 1, 3, True, backward),
                             ("copy", 1, 1, 3, True, backward), ("copy", 2, 1, 3, True, backward)))
            self.same(whole(melody, 5), [("up", 0, 0), ("told", 2), ("down", 0, 3), ("told", 1), ("up", 0, 0)])

    def test_copies_of_notes(self):
        melody = Melody((("notes", 2, 4), ("copy", 0, 3, 1, False, False), ("copy", 3, 2, 1, True, True)))
        self.same(whole(melody, 7), [("told", 4), ("told", 4), ("told", 5), ("told", 5), ("told", 6), ("told", -5),
                                     ("told", -4)])

    def test_drawn_pieces_place_by_place(self):
        draw = Random(81)
        for _ in range(1500):
            pieces = drawn_pieces(draw)
            found, melody = each_place(pieces), Melody(pieces)
            self.same((melody.size, melody.pieces), (len(found), pieces))
            self.same(melody.new, sum(piece[1] for piece in pieces if piece[0] == "new"))
            self.same(whole(melody, melody.size), found)

    def test_no_places(self):
        far = Melody((("new", 1), ("copy", 0, FAR - 1, 1, False, False)))
        for melody in (SMALL, far):
            for wrong in NO_INTEGERS + (-1, -melody.size, melody.size, 10 ** 40):
                self.refused(NoPlace, wrong, lambda: melody[wrong])
        self.same((far[FAR - 1], SMALL[7], SMALL[0]), (("up", 0, FAR - 1), ("down", 0, 9), ("up", 0, 0)))


class Refused(Case):

    def bad(self, value):
        self.refused(BadPieces, value, Melody, value)

    def test_what_is_no_tuple_of_pieces(self):
        for wrong in NO_INTEGERS + (0, 1, ("new", 2), ("new",), ((),), (("new", 2), ()), [("new", 2)], (["new", 2],),
                                    (("new", 2), None), ((("new", 2),),), SMALL, (SMALL,), {("new", 2): 1}):
            self.bad(wrong)

    def test_other_forms(self):
        for piece in (("new",), ("new", 1, 1), ("New", 1), ("old", 1), (1, "new"), ("notes", 1), ("notes", 1, 1, 1),
                      ("notes",), ("copy",), ("copy", 0, 1), ("copy", 0, 1, 0, False), ("kopy", 0, 1, 0, False, False),
                      (None, 1), ([], 1), ((), 1), ("copy", 0, 1, 0, False, False, False), (Tie(0, 1, 1), 1),
                      ("", 1), (True, 1)):
            self.bad((piece,))
            self.bad((("new", 3), piece))
            self.bad((("new", 3), piece, ("new", 1)))

    def test_other_numbers(self):
        for wrong in NO_INTEGERS + (0, -1, -FAR):
            self.bad((("new", wrong),))
            self.bad((("notes", wrong, 1),))
            self.bad((("new", 3), ("copy", 0, wrong, 0, False, False)))
        for wrong in NO_INTEGERS:
            self.bad((("notes", 1, wrong),))
            self.bad((("new", 3), ("copy", wrong, 1, 0, False, False)))
            self.bad((("new", 3), ("copy", 0, 1, wrong, False, False)))

    def test_other_ways(self):
        for wrong in NO_BOOLS:
            self.bad((("new", 3), ("copy", 0, 1, 0, wrong, False)))
            self.bad((("new", 3), ("copy", 0, 1, 0, False, wrong)))

    def test_where_a_copy_begins(self):
        for backward in (False, True):
            self.bad((("copy", 0, 1, 0, False, backward),))
            for first in (-1, 3, 4, FAR):
                self.bad((("new", 3), ("copy", first, 1, 0, False, backward)))
            self.assertEqual(Melody((("new", 3), ("copy", 2, 1, 0, False, backward))).size, 4)
        self.assertEqual(Melody((("new", 3), ("copy", 2, 99, 0, False, False))).size, 102)
        self.assertEqual(Melody((("new", 3), ("copy", 1, 2, 0, False, True))).size, 5)
        self.bad((("new", 3), ("copy", 1, 3, 0, False, True)))
        self.bad((("new", 3), ("copy", 2, 2, 0, False, True), ("new", 1)))

    def test_the_size(self):
        self.assertEqual(Melody((("new", FAR),)).size, FAR)
        self.bad((("new", FAR + 1),))
        self.bad((("notes", FAR, 0), ("new", 1)))
        self.bad((("new", 1), ("copy", 0, FAR, 0, False, False)))
        self.bad((("new", 10 ** 29),) * 11)


class Played(Case):

    def test_each_number_is_asked_once_ascending(self):
        melody = Melody((("new", 9), ("notes", 1, 4), ("copy", 2, 5, 0, True, True), ("copy", 2, 2, 0, True, True)))
        asked = []

        def look(number):
            asked.append(number)
            return number * number

        self.same(melody.played(look, 9, 8), (4, -36, -25, -16, -9, -4, -9, -4))
        self.assertEqual(asked, [2, 3, 4, 5, 6])
        del asked[:]
        self.same(melody.played(look=look, first=9, length=1), (4,))
        self.assertEqual(asked, [])
        self.same(melody.played(look, 16, 1), (-4,))
        self.assertEqual(asked, [2])

    def test_a_wrong_note_comes_at_once(self):
        for wrong in NO_INTEGERS:
            asked = []

            def look(number):
                asked.append(number)
                return wrong if number == 1 else 7
            self.refused(BadNote, wrong, Melody((("new", 3),)).played, look, 0, 3)
            self.assertEqual(asked, [0, 1])

    def test_what_look_raises_goes_on(self):
        self.assertRaises(ZeroDivisionError, SMALL.played, lambda k: 1 // k, 0, 2)

    def test_other_places_and_lengths(self):
        def look(number):
            raise AssertionError(number)
        for wrong in NO_INTEGERS + (-1, 8, FAR):
            self.refused(NoPlace, wrong, SMALL.played, look, wrong, None)
        long = Melody((("new", 200),))
        for wrong in NO_INTEGERS + (0, -1, 100, FAR):
            self.refused(BadLength, wrong, long.played, look, 0, wrong)
        self.refused(BadLength, 9, SMALL.played, look, 0, 9)
        self.refused(BadLength, 2, SMALL.played, look, 7, 2)
        self.same(long.played(lambda k: k, 101, 99), tuple(range(101, 200)))

    def test_far_notes(self):
        melody = general(LONG)
        self.same(melody.played(lambda k: 10 * k, FAR - 3, 3),
                  tuple(place // 3 + 10 * (place % 3) for place in range(FAR - 3, FAR)))


class Equal(Case):

    def test_other_pieces_alike_at_each_place(self):
        for one, other in (
                ((("new", 3),), (("new", 1), ("new", 2))),
                ((("notes", 3, 1),), (("notes", 1, 1), ("copy", 0, 2, 0, False, False))),
                ((("new", 1), ("copy", 0, 5, 1, False, False)),
                 (("new", 1), ("copy", 0, 2, 1, False, False), ("copy", 0, 3, 3, False, False))),
                ((("new", 2), ("copy", 0, 2, 1, True, True)),
                 (("new", 2), ("copy", 1, 1, 1, True, True), ("copy", 0, 1, 1, True, False))),
                ((("notes", 2, 3), ("copy", 0, 1, 1, False, False)),
                 (("notes", 2, 3), ("copy", 0, 1, 7, True, False)))):
            self.assertTrue(Melody(one) == Melody(other))
            self.assertTrue(Melody(other) == Melody(one))
            self.assertFalse(Melody(one) != Melody(other))

    def test_not_alike(self):
        base = Melody((("new", 2), ("copy", 0, 2, 1, False, False)))
        for pieces in ((("new", 4),), (("notes", 4, 0),), (("new", 2), ("copy", 0, 2, 2, False, False)),
                       (("new", 2), ("copy", 0, 2, 1, True, False)), (("new", 2), ("copy", 0, 2, 1, False, True)),
                       (("new", 2), ("copy", 0, 3, 1, False, False)), (("new", 2), ("copy", 0, 1, 1, False, False)),
                       (("new", 2), ("copy", 0, 1, 1, False, False), ("new", 1)),
                       (("new", 2), ("copy", 0, 1, 1, False, False), ("notes", 1, 0)),
                       (("new", 1), ("copy", 0, 1, 0, False, False), ("copy", 0, 2, 1, False, False)),
                       (("new", 1), ("notes", 1, 0), ("new", 1), ("copy", 0, 1, 0, False, False))):
            self.assertFalse(base == Melody(pieces))
            self.assertFalse(Melody(pieces) == base)

    def test_anything_else(self):
        for other in NO_INTEGERS + (0, 1, SMALL.pieces, LONG, CLASHES[0]):
            self.assertFalse(SMALL == other)
            self.assertFalse(other == SMALL)

    def test_drawn_melodies(self):
        draw, equal = Random(82), 0
        for _ in range(3000):
            one = drawn_pieces(draw, 3, 3)
            other = draw.choice((drawn_pieces(draw, 3, 3), divided(draw, drawn_pieces(draw)), divided(draw, one)))
            wanted = each_place(one) == each_place(other)
            self.assertIs(Melody(one) == Melody(other), wanted, (one, other))
            self.assertIs(Melody(other) == Melody(one), wanted, (one, other))
            equal += wanted
        self.assertGreater(equal, 900)

    def test_long_melodies(self):
        step = 10 ** 14 + 31
        one = Melody((("new", step), ("copy", 0, FAR - step, 4, False, False)))
        other = [("new", step)]
        here = step
        while here < FAR:
            length = min(here // step * step, FAR - here)
            other.append(("copy", 0, length, 4 * (here // step), False, False))
            here += length
        self.assertTrue(one == Melody(tuple(other)))
        self.assertTrue(Melody(tuple(other)) == one)
        last = other[-1]
        other[-1:] = [(*last[:2], last[2] - 1, *last[3:]), ("copy", 0, 1, 0, False, False)]
        self.assertFalse(one == Melody(tuple(other)))
        self.assertFalse(Melody(tuple(other)) == one)


class Keeps(Case):

    def test_drawn_melodies_and_books(self):
        draw, kept = Random(83), 0
        for _ in range(2500):
            pieces = drawn_pieces(draw, 4, 4)
            found = each_place(pieces)
            ties = [drawn_tie(draw, len(found), draw.choice(([what[-1] for what in found], None)))
                    for _ in range(draw.randint(0, 2))]
            places = [place for place in range(len(found)) if found[place][0] == "told"][:draw.choice((0, 0, 1))]
            book = book_of(len(found), ties, [(place, found[place][1] + draw.choice((0, 0, 1))) for place in places])
            wanted = all(found[tie(place)] == copied(found[place], tie.amount, tie.down)
                         for tie in book.ties for place in range(tie.first, tie.first + tie.length))
            wanted = wanted and all(found[place] == ("told", note) for place, note in book.notes)
            self.assertIs(keeps(book, Melody(pieces)), wanted, (book.text, pieces))
            kept += wanted and len(book) > 0
        self.assertGreater(kept, 200)

    def test_whatever_notes_the_new_places_have(self):
        book = Book("size 2\ntie 0 1 1 up 0")
        self.assertIs(keeps(book, Melody((("new", 2),))), False)
        self.assertIs(keeps(book, Melody((("notes", 2, 5),))), True)
        self.assertIs(keeps(book, Melody((("new", 1), ("copy", 0, 1, 0, False, False)))), True)
        self.assertIs(keeps(Book("size 2\nnote 1 5"), Melody((("new", 2),))), False)
        self.assertIs(keeps(Book("size 2\nnote 1 5"), Melody((("new", 1), ("notes", 1, 5)))), True)
        self.assertIs(keeps(book=Book("size 2\nnote 1 5"), melody=Melody((("notes", 2, 6),))), False)

    def test_other_sizes(self):
        self.assertIs(keeps(Book("size 3"), Melody((("new", 3),))), True)
        for size in (1, 2, 4, FAR):
            self.assertIs(keeps(Book(f"size {size}"), Melody((("new", 3),))), False)

    def test_no_melody_keeps_what_cannot_be_kept(self):
        for book in CLASHES:
            self.assertIs(keeps(book, Melody((("new", book.size),))), False)
            self.assertIs(keeps(book, Melody((("notes", book.size, 1),))), False)

    def test_far_places(self):
        step = 10 ** 15 + 37
        melody = Melody((("new", step), ("copy", 0, FAR - step, 2, False, False)))
        self.assertIs(keeps(book_of(FAR, [Tie(0, 7 * step, FAR - 7 * step, 14)]), melody), True)
        self.assertIs(keeps(book_of(FAR, [Tie(0, 7 * step, FAR - 7 * step, 13)]), melody), False)
        self.assertIs(keeps(book_of(FAR, [Tie(0, 7 * step + 1, 1, 14)]), melody), False)
        last = Melody((("new", step), ("copy", 0, FAR - step - 1, 2, False, False), ("new", 1)))
        self.assertIs(keeps(book_of(FAR, [Tie(0, 7 * step, FAR - 7 * step, 14)]), last), False)
        self.assertIs(keeps(book_of(FAR, [Tie(0, 7 * step, FAR - 7 * step - 1, 14)]), last), True)


class General(Case):

    def check(self, book):
        melody = general(book)
        self.assertIs(type(melody), Melody)
        self.same((melody.size, melody.new), (book.size, free(book)))
        self.assertIs(keeps(book, melody), True)
        self.assertIs(shows_general(book, melody), True)
        self.assertTrue(general(book) == melody)
        return melody

    def test_all_melodies_are_got_by_choosing_notes(self):
        draw = Random(84)
        for book, told in kept_books(seed=84, many=500):
            melody = self.check(book)
            chosen = [draw.randint(-50, 50) for _ in range(book.size)]
            notes = melody_by(told, chosen)
            places = [place for place in range(book.size) if melody[place] == ("up", melody[place][1], 0)
                      and told[place] == ("up", place, 0)]
            self.assertEqual(len(places), melody.new)
            self.same(melody.played(lambda k: notes[places[k]], 0, book.size), tuple(notes))
            self.assertTrue(list_keeps(book, notes))

    def test_long_books(self):
        for book in (LONG, LONG.with_note(FAR - 1, 0), ~LONG, LONG | book_of(FAR, [Tie(0, 6, FAR - 6, 2)]),
                     book_of(FAR, [Tie(0, 0, FAR, 3, down=True, backward=True)])):
            self.check(book)

    def test_what_is_not_general(self):
        book = Book("size 4\ntie 0 2 2 up 1")
        for pieces, wanted in (
                ((("new", 2), ("copy", 0, 2, 1, False, False)), True),
                ((("new", 1), ("new", 1), ("copy", 0, 1, 1, False, False), ("copy", 1, 1, 1, False, False)), True),
                ((("notes", 2, 5), ("notes", 2, 6)), False),
                ((("new", 1), ("notes", 1, 5), ("copy", 0, 2, 1, False, False)), False),
                ((("new", 2), ("copy", 0, 2, 2, False, False)), False),
                ((("new", 4),), False), ((("new", 3), ("notes", 1, 0)), False),
                ((("new", 2), ("copy", 0, 3, 1, False, False)), False)):
            self.assertIs(shows_general(book, Melody(pieces)), wanted, pieces)
            self.assertIs(shows_general(book, pieces), False)
        for wrong in NO_INTEGERS + (0, 2, LONG, CLASHES[0]):
            self.assertIs(shows_general(book=book, value=wrong), False)
        self.assertIs(shows_general(FOUR, general(FOUR)), True)
        self.assertIs(shows_general(FOUR, general(SONG)), False)

    def test_books_that_no_melody_keeps(self):
        for book in CLASHES:
            self.refused(Clash, book, general, book)
            for value in (None, Melody((("new", 1),)), general(SONG)):
                self.refused(Clash, book, shows_general, book, value)
        for book in drawn_books(seed=85, many=300):
            if hung(book) is None:
                self.refused(Clash, book, general, book)


if __name__ == "__main__":
    unittest.main()
