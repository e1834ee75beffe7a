"""Point 6: what a place hangs on, how many places are free, and which."""

import unittest
from math import gcd
from random import Random

from turnedtunes.books import Book
from turnedtunes.errors import BadLength, Clash, NoPlace
from turnedtunes.hanging import free, free_parts, hangs, heard
from turnedtunes.ties import Tie
from tests.helper import FAR, NO_INTEGERS, Case, book_of, drawn_books, hung, keeps, kept_books, melody_by

SONG = Book("size 12\ntie 0 4 4 up 2\ntie 0 8 4 down 9 back\nnote 0 5")
FOUR = Book("size 4\ntie 0 3 1 up 1\ntie 0 2 2 up 1")
LONG = book_of(FAR, [Tie(0, 3, FAR - 3, 1)])
# No melody keeps these.
CLASHES = (
    Book("size 5\ntie 0 3 2 up 1\ntie 0 2 3 up 1"),
    Book("size 3\ntie 1 1 2 up 1"),
    Book("size 3\ntie 1 1 1 down 1"),
    Book("size 3\ntie 0 0 3 up 2 back"),
    Book("size 3\ntie 0 0 3 down 1 back"),
    Book("size 3\ntie 0 1 2 up 0\nnote 0 1\nnote 2 2"),
    Book("size 4\ntie 0 2 1 down 3\ntie 0 2 1 up 0"),
    book_of(FAR, [Tie(0, 3, FAR - 3, 1), Tie(0, 2, FAR - 2, 1)]),
    book_of(FAR, [Tie(0, 1, FAR - 1)], [(0, 0), (FAR - 1, 1)]),
)


def stretches(places):
    """Ascending places as (first, length) of stretches."""
    found = []
    for place in places:
        if found and sum(found[-1]) == place:
            found[-1] = found[-1][0], found[-1][1] + 1
        else:
            found.append((place, 1))
    return tuple(found)


class Examples(Case):

    def test_of_the_document(self):
        self.same([hangs(SONG, place) for place in (1, 4, 5, 10, 11)],
                  [("up", 1, 0), ("told", 7), ("up", 1, 2), ("down", 1, 9), ("told", 4)])
        self.same((free(SONG), free_parts(SONG)), (3, ((1, 3),)))
        self.same(heard(FOUR, 0, 4), (("up", 0, 0), ("up", 0, 0), ("up", 0, 1), ("up", 0, 1)))
        self.same((hangs(LONG, FAR - 1)[2], free(LONG)), (333333333333333333333333333333, 3))

    def test_one_place_more_cannot_be_kept(self):
        self.assertRaises(Clash, hangs, CLASHES[0], 0)


class Small(Case):

    def test_a_book_without_ties(self):
        book = Book("size 3\nnote 1 7")
        self.same(heard(book, 0, 3), (("up", 0, 0), ("told", 7), ("up", 2, 0)))
        self.same((free(book), free_parts(book)), (2, ((0, 1), (2, 1))))
        self.same((free(Book("size 3")), free_parts(Book("size 3"))), (3, ((0, 3),)))

    def test_no_place_is_free(self):
        book = Book("size 2\ntie 0 0 2 down 6")
        self.same(heard(book, 0, 2), (("told", 3), ("told", 3)))
        self.same((free(book), free_parts(book)), (0, ()))

    def test_down_and_back(self):
        book = Book("size 7\ntie 0 3 3 down 4 back")
        self.same(heard(book, 0, 7), (("up", 0, 0), ("up", 1, 0), ("up", 2, 0), ("down", 2, 4), ("down", 1, 4),
                                      ("down", 0, 4), ("up", 6, 0)))

    def test_a_part_that_is_itself_upside_down_and_backward(self):
        book = Book("size 3\ntie 0 0 3 down 4 back")
        self.same(heard(book, 0, 3), (("up", 0, 0), ("told", 2), ("down", 0, 4)))
        # In an even part no place lies in the middle: so the amount may be odd.
        self.same(heard(Book("size 2\ntie 0 0 2 down 3 back"), 0, 2), (("up", 0, 0), ("down", 0, 3)))

    def test_up_and_down_from_one_place_tells_both(self):
        book = Book("size 4\ntie 0 2 1 down 4\ntie 0 2 1 up 2")
        self.same(heard(book, 0, 4), (("told", 1), ("up", 1, 0), ("told", 3), ("up", 3, 0)))

    def test_books_held_against_joining_all_places_one_by_one(self):
        clashes = 0
        for book in drawn_books(seed=61, many=3000):
            told = hung(book)
            if told is None:
                clashes += 1
                self.refused(Clash, book, hangs, book, 0)
                continue
            self.assertEqual(heard(book, 0, book.size), tuple(told), book.text)
            places = [place for place in range(book.size) if told[place] == ("up", place, 0)]
            self.assertEqual((free(book), free_parts(book)), (len(places), stretches(places)))
        self.assertGreater(clashes, 300)

    def test_long_small_books_with_many_ties(self):
        for book, told in kept_books(seed=62, many=300, greatest=60, ties=12):
            self.assertEqual(heard(book, 0, book.size), tuple(told), book.text)
            for place in (0, book.size // 2, book.size - 1):
                self.assertEqual(hangs(book, place), told[place])

    def test_the_free_notes_can_be_chosen(self):
        draw = Random(63)
        for book, _ in kept_books(seed=63, many=300):
            melody = melody_by(heard(book, 0, book.size), [draw.randint(-99, 99) for _ in range(book.size)])
            self.assertTrue(keeps(book, melody), book.text)


class FarPlaces(Case):

    def test_one_part_that_climbs(self):
        for tie in (Tie(0, 3, FAR - 3, 1), Tie(3, 0, FAR - 3, -1)):
            book = book_of(FAR, [tie])
            self.same((free(book), free_parts(book)), (3, ((0, 3),)))
            for place in (0, 2, 3, 10 ** 15, FAR - 2, FAR - 1):
                self.same(hangs(book, place), ("up", place % 3, place // 3))

    def test_one_part_that_climbs_upside_down(self):
        book = book_of(FAR, [Tie(2, 5, FAR - 5, 7, down=True)])
        self.same(heard(book, 0, 7), (("up", 0, 0), ("up", 1, 0), ("up", 2, 0), ("up", 3, 0), ("up", 4, 0),
                                      ("down", 2, 7), ("down", 3, 7)))
        self.same(hangs(book, FAR - 1), ("up", 3, 0))
        self.same(hangs(book, FAR - 2), ("up", 2, 0))
        self.same(hangs(book, FAR - 3), ("down", 4, 7))
        self.same(free_parts(book), ((0, 5),))

    def test_two_climbs_that_join_all_places_just_once(self):
        # From each place but one the first step leads on, or the other one back:
        # so all places are joined, and none of them by two ways.
        for step in (6 * 10 ** 29 + 1, 10 ** 20 + 3, 37):
            other = FAR + 1 - step
            self.assertEqual(gcd(step, other), 1)
            book = book_of(FAR, [Tie(0, step, FAR - step, 5), Tie(0, other, FAR - other, -8)])
            self.same((free(book), free_parts(book)), (1, ((0, 1),)))
            for place in (1, 2, 36, 10 ** 15, FAR // 3, FAR - 2, FAR - 1):
                self.same(hangs(book, place), ("up", 0, tree_note(place, step, other, 5, -8)))

    def test_two_climbs_the_steps_of_which_are_alike(self):
        book = book_of(FAR, [Tie(0, 6 * 10 ** 20, FAR - 6 * 10 ** 20, 2 * 10 ** 20),
                             Tie(10 ** 25, 10 ** 25 + 9 * 10 ** 19, FAR - 10 ** 26, 3 * 10 ** 19)])
        self.same(free(book), 3 * 10 ** 19)
        self.same(hangs(book, FAR - 1), ("up", 10 ** 19 - 1, (FAR // (3 * 10 ** 19)) * 10 ** 19))

    def test_a_mirror(self):
        book = book_of(FAR, [Tie(0, 0, FAR, 9, down=True, backward=True)])
        self.same((free(book), free_parts(book)), (FAR // 2, ((0, FAR // 2),)))
        self.same(hangs(book, FAR - 1), ("down", 0, 9))
        self.same(hangs(book, FAR // 2), ("down", FAR // 2 - 1, 9))
        self.same(hangs(book, FAR // 2 - 1), ("up", FAR // 2 - 1, 0))
        odd = book_of(FAR, [Tie(1, 1, FAR - 1, 8, down=True, backward=True)])
        self.same((free(odd), hangs(odd, FAR // 2)), (FAR // 2, ("told", 4)))
        self.same(free_parts(odd), ((0, FAR // 2),))

    def test_two_mirrors_climb(self):
        book = book_of(FAR, [Tie(0, 0, FAR, 5, down=True, backward=True),
                             Tie(0, 0, FAR - 1, 2, down=True, backward=True)])
        least = (5 - 3 * (FAR - 1)) // 2
        self.same((free(book), free_parts(book)), (0, ()))
        for place in (0, 1, 10 ** 17, FAR - 1):
            self.same(hangs(book, place), ("told", least + 3 * place))
        turned = book_of(FAR, [Tie(0, 0, FAR, backward=True), Tie(0, 0, FAR - 7, backward=True)])
        self.same((free(turned), hangs(turned, FAR - 1)), (4, ("up", 0, 0)))

    def test_many_ties_at_once(self):
        steps = [6 * (10 ** k + k) for k in (28, 26, 20, 19, 17, 11, 10, 7, 5, 4, 3)]
        ties = [Tie(k, k + step, FAR - step - k * k, 7 * step) for k, step in enumerate(steps)]
        # A linear melody keeps a mirror upside down, too.
        ties.append(Tie(5, 5, FAR - 5, 7 * (FAR + 4), down=True, backward=True))
        book = book_of(FAR, ties)
        apart = gcd(*steps)
        self.same((apart, free(book), free_parts(book)), (6, 2, ((0, 1), (3, 1))))
        # By steps of 6, the mirror leads place p to 2 - p: so some places to themselves.
        for start in (6, 10 ** 9, FAR // 7, FAR - 121):
            for place in range(start, start + 6):
                self.same(hangs(book, place), {
                    0: ("up", 0, 7 * place), 1: ("told", 7 * place), 2: ("down", 0, 7 * place),
                    3: ("up", 3, 7 * (place - 3)), 4: ("told", 7 * place), 5: ("down", 3, 7 * (place + 3)),
                }[place % 6])

    def test_a_far_note_tells_all_that_hangs_with_it(self):
        book = LONG.with_note(FAR - 1, 0)
        self.same(hangs(book, 0), ("told", -((FAR - 1) // 3)))
        self.same(heard(book, 10 ** 20, 3)[1:], (("up", 2, (10 ** 20 + 1) // 3), ("told", (10 ** 20 + 3 - FAR) // 3)))
        self.same((free(book), free_parts(book)), (2, ((1, 2),)))


def tree_note(place, step, other, up, more):
    """By how much a place lies above place 0, if one goes up by each step, and up more by each other one.

    Going round by steps, size + 1 places one after the other, one comes to every place but the last.
    """
    around = step + other
    inverse = pow(step, -1, around)
    gone = place * inverse % around
    if gone > -inverse % around:
        gone -= around
    forth = (place + gone * other) // around
    return forth * up - (gone - forth) * more


class Refused(Case):

    def test_no_places(self):
        for book in (SONG, FOUR, LONG, *CLASHES):
            for wrong in NO_INTEGERS + (-1, -FAR, book.size, book.size + 1, 10 ** 40):
                self.refused(NoPlace, wrong, hangs, book, wrong)
                self.refused(NoPlace, wrong, heard, book, wrong, 1)
                self.refused(NoPlace, wrong, heard, book, wrong, None)

    def test_other_lengths(self):
        for book in (SONG, LONG, CLASHES[0], CLASHES[-1]):
            for wrong in NO_INTEGERS + (0, -1, 100, FAR, book.size + 1):
                self.refused(BadLength, wrong, heard, book, 0, wrong)
            self.refused(BadLength, 2, heard, book, book.size - 1, 2)
            self.refused(BadLength, 99, heard, book, book.size - 98, 99) if book.size > 98 else None

    def test_the_greatest_lengths(self):
        self.assertEqual(len(heard(LONG, 0, 99)), 99)
        self.same(heard(LONG, FAR - 99, 99)[-1], ("up", (FAR - 1) % 3, (FAR - 1) // 3))
        self.same(heard(SONG, 11, 1), (("told", 4),))
        self.same(heard(book=SONG, first=10, length=2), (("down", 1, 9), ("told", 4)))

    def test_books_that_no_melody_keeps(self):
        for book in CLASHES:
            self.refused(Clash, book, hangs, book, 0)
            self.refused(Clash, book, hangs, book, book.size - 1)
            self.refused(Clash, book, heard, book, 0, 1)
            self.refused(Clash, book, free, book)
            self.refused(Clash, book, free_parts, book)


class Unchanged(Case):

    def test_equal_calls_return_equal_results(self):
        for book in (SONG, FOUR, LONG):
            before = book.text, book.ties, book.notes
            once = hangs(book, 3), free(book), free_parts(book), heard(book, 0, 4)
            self.same((hangs(book, 3), free(book), free_parts(book), heard(book, 0, 4)), once)
            self.assertEqual((book.text, book.ties, book.notes), before)


if __name__ == "__main__":
    unittest.main()
