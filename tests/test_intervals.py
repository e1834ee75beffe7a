"""Point 9: intervals between places, and ties that follow from others."""

import unittest
from random import Random

from turnedtunes.books import Book
from turnedtunes.errors import BadTie, Clash, NoPlace
from turnedtunes.hanging import hangs
from turnedtunes.intervals import follows, interval, needless
from turnedtunes.ties import Tie
from tests.helper import FAR, NO_INTEGERS, Case, between, book_of, drawn_tie, hung, kept_books, pairs
from tests.test_hanging import CLASHES, FOUR, LONG, SONG


def tie_told(told, tie):
    """What follows tells of a tie, place by place, of what hangs tells of all places."""
    for k, (place, (partner, amount, sign)) in enumerate(sorted(pairs(tie).items())):
        one, other = told[place], told[partner]
        if one[0] == "told":
            wanted = ("told", amount + sign * one[1])
        else:
            up = (one[0] == "up") == (sign == 1)
            wanted = ("up" if up else "down", one[1], amount + sign * one[2])
        if other != wanted:
            return "open", k
    return ("sure",)


class Examples(Case):

    def test_of_the_document(self):
        self.same([interval(SONG, 5, 10), interval(SONG, 4, 11), interval(SONG, 1, 2)],
                  [("down", 11), ("up", -3), ("open",)])
        self.same(follows(SONG, Tie(4, 8, 4, 11, down=True, backward=True)), ("sure",))
        self.same(follows(SONG, Tie(0, 4, 5, 2)), ("open", 4))
        self.same(needless(SONG), ())


class Interval(Case):

    def test_one_place(self):
        self.same((interval(SONG, 0, 0), interval(SONG, 1, 1), interval(SONG, 10, 10)), (("up", 0),) * 3)

    def test_told_places_are_told_up(self):
        book = Book("size 3\ntie 0 1 2 down 6\nnote 0 1")
        self.same([interval(book, *two) for two in ((0, 1), (1, 0), (0, 2), (1, 2))],
                  [("up", 4), ("up", -4), ("up", 0), ("up", -4)])
        self.same(interval(Book("size 2\nnote 0 3\nnote 1 8"), 0, 1), ("up", 5))

    def test_a_told_and_a_free_place(self):
        book = Book("size 2\nnote 0 3")
        self.same((interval(book, 0, 1), interval(book, 1, 0)), (("open",), ("open",)))

    def test_up_and_down(self):
        book = Book("size 4\ntie 0 1 1 up 3\ntie 0 2 1 down 5\ntie 2 3 1 up 1")
        self.same([interval(book, 0, 1), interval(book, 1, 0), interval(book, 0, 2), interval(book, 2, 0),
                   interval(book, 1, 2), interval(book, 2, 1), interval(book, 2, 3), interval(book, 3, 2)],
                  [("up", 3), ("up", -3), ("down", 5), ("down", 5), ("down", 8), ("down", 8), ("up", 1), ("up", -1)])
        self.same(interval(book=book, one=3, other=1), ("down", 9))

    def test_drawn_books(self):
        for book, told in kept_books(seed=91, many=300, greatest=9):
            for one in range(book.size):
                for other in range(book.size):
                    self.same(interval(book, one, other), between(told[one], told[other]))

    def test_far_places(self):
        self.same(interval(LONG, 2, FAR - 2), ("up", FAR // 3 - 1))
        self.same(interval(LONG, FAR - 2, 2), ("up", 1 - FAR // 3))
        self.same(interval(LONG, 1, FAR - 1), ("open",))
        mirror = book_of(FAR, [Tie(0, 0, FAR, 9, down=True, backward=True)])
        self.same(interval(mirror, FAR - 5, 4), ("down", 9))
        self.same(interval(mirror, FAR - 5, 5), ("open",))

    def test_no_places(self):
        for book in (SONG, LONG, CLASHES[0], CLASHES[-1]):
            for wrong in NO_INTEGERS + (-1, book.size, -FAR):
                self.refused(NoPlace, wrong, interval, book, wrong, 0)
                self.refused(NoPlace, wrong, interval, book, 0, wrong)
                self.refused(NoPlace, wrong, interval, book, wrong, None)
        for book in CLASHES:
            self.refused(Clash, book, interval, book, 0, 1)
            self.refused(Clash, book, interval, book, 0, 0)


class Follows(Case):

    def test_drawn_ties(self):
        draw, found = Random(92), {}
        for book, told in kept_books(seed=92, many=1200):
            melody = [what[-1] for what in told]
            for tune in (melody, melody, None):
                tie = drawn_tie(draw, book.size, tune)
                wanted = tie_told(told, tie)
                self.same(follows(book, tie), wanted)
                found[wanted[0]] = found.get(wanted[0], 0) + 1
            for tie in book.ties:
                self.same(follows(book, tie), ("sure",))
        self.assertGreater(min(found["sure"], found["open"]), 400)

    def test_each_place_is_looked_at(self):
        book = Book("size 9\ntie 0 4 4 up 2")
        for length in range(1, 6):
            self.same(follows(book, Tie(0, 4, length, 2)), ("sure",) if length < 5 else ("open", 4))
        self.same(follows(book, Tie(0, 3, 4, 2)), ("open", 0))
        self.same(follows(book, Tie(0, 4, 4, 1)), ("open", 0))
        self.same(follows(book, Tie(0, 4, 4, 2, down=True)), ("open", 0))
        self.same(follows(book, Tie(0, 4, 4, 2, backward=True)), ("open", 0))
        self.same(follows(book, Tie(4, 0, 5, -2)), ("open", 4))
        self.same(follows(book=book, tie=Tie(3, 3, 6)), ("sure",))

    def test_the_least_open_place_of_some(self):
        book = Book("size 12\ntie 0 6 2 up 0\ntie 3 9 1 up 0\ntie 5 11 1 up 0")
        self.same(follows(book, Tie(0, 6, 6)), ("open", 2))
        self.same(follows(book, Tie(3, 9, 3)), ("open", 1))
        self.same(follows(book, Tie(6, 0, 6)), ("open", 2))

    def test_backward_ties(self):
        book = Book("size 8\ntie 0 4 4 up 3 back")
        self.same(follows(book, Tie(0, 4, 4, 3, backward=True)), ("sure",))
        self.same(follows(book, Tie(4, 0, 4, -3, backward=True)), ("sure",))
        self.same(follows(book, Tie(1, 4, 4, 3, backward=True)), ("open", 0))
        self.same(follows(book, Tie(0, 5, 3, 3, backward=True)), ("sure",))
        self.same(follows(book, Tie(1, 3, 4, 3, backward=True)), ("open", 3))

    def test_ties_of_one_place(self):
        self.same(follows(SONG, Tie(5, 10, 1, 11, down=True)), ("sure",))
        self.same(follows(SONG, Tie(5, 10, 1, 10, down=True)), ("open", 0))
        self.same(follows(SONG, Tie(0, 0, 1, 10, down=True)), ("sure",))
        self.same(follows(SONG, Tie(0, 0, 1, 9, down=True)), ("open", 0))
        self.same(follows(SONG, Tie(3, 3, 1, 0)), ("sure",))
        self.same(follows(SONG, Tie(3, 3, 1, 1)), ("open", 0))
        self.same(follows(SONG, Tie(3, 3, 1, 0, down=True)), ("open", 0))

    def test_a_climb_by_its_double_step(self):
        book = Book("size 20\ntie 0 3 17 up 5")
        self.same(follows(book, Tie(0, 6, 14, 10)), ("sure",))
        self.same(follows(book, Tie(0, 6, 14, 9)), ("open", 0))
        self.same(follows(Book("size 20\ntie 0 6 14 up 10"), Tie(0, 3, 17, 5)), ("open", 0))
        self.same(follows(Book("size 20\ntie 0 3 17 down 5"), Tie(0, 6, 14)), ("sure",))

    def test_far_ties(self):
        self.same(follows(LONG, Tie(0, 3 * 10 ** 20, FAR - 3 * 10 ** 20, 10 ** 20)), ("sure",))
        self.same(follows(LONG, Tie(0, 3 * 10 ** 20, FAR - 3 * 10 ** 20, 10 ** 20 + 1)), ("open", 0))
        until = 7 * 10 ** 29 + 5
        book = book_of(FAR, [Tie(0, 3, until - 3, 1)])
        self.same(follows(book, Tie(0, 9, FAR - 9, 3)), ("open", until - 9))
        self.same(follows(book, Tie(FAR - 99, 0, 99)), ("open", 0))
        # Backward, the last place leads to the first one.
        mirror = book_of(FAR, [Tie(10 ** 29, 10 ** 29, 10 ** 29, 4, down=True, backward=True)])
        self.same(follows(mirror, Tie(0, 0, 3 * 10 ** 29, 4, down=True, backward=True)), ("open", 0))
        self.same(follows(mirror, Tie(10 ** 29, 10 ** 29 - 7, 10 ** 29 + 7, 4, down=True, backward=True)),
                  ("open", 10 ** 29))
        self.same(follows(mirror, Tie(10 ** 29 + 7, 10 ** 29, 10 ** 29 - 7, 4, down=True, backward=True)), ("sure",))
        self.same(follows(mirror, Tie(10 ** 29 + 7, 10 ** 29 - 5, 10 ** 29 - 2, 4, down=True, backward=True)),
                  ("open", 10 ** 29 - 7))

    def test_no_ties_within_the_size(self):
        for book in (SONG, CLASHES[0], Book("size 1")):
            for wrong in NO_INTEGERS + (0, 1, "0 0 1 up 0", SONG):
                if not isinstance(wrong, Tie):
                    self.refused(BadTie, wrong, follows, book, wrong)
            for wrong in (Tie(0, 0, book.size + 1), Tie(0, 1, book.size), Tie(1, 0, book.size), Tie(FAR - 1, 0, 1)):
                self.refused(BadTie, wrong, follows, book, wrong)
        for book in CLASHES:
            self.refused(Clash, book, follows, book, Tie(0, 0, 1))


class Needless(Case):

    def test_a_tie_told_twice(self):
        self.same(needless(Book("size 9\ntie 0 4 4 up 2\ntie 0 4 4 up 2")), (0, 1))
        self.same(needless(Book("size 9\ntie 0 4 4 up 2\ntie 1 5 2 up 2\ntie 4 0 3 up -2")), (1, 2))
        self.same(needless(Book("size 9\ntie 0 4 4 up 2\ntie 4 0 4 up -2")), (0, 1))

    def test_a_climb_and_its_double_step(self):
        self.same(needless(Book("size 20\ntie 0 3 17 up 5\ntie 0 6 14 up 10")), (1,))
        # Neither of the steps 4 and 6 tells the other one; together they tell the step 2.
        self.same(needless(Book("size 20\ntie 0 4 16 up 2\ntie 0 6 14 up 3")), ())
        self.same(needless(Book("size 20\ntie 0 4 16 up 2\ntie 0 6 14 up 3\ntie 0 2 18 up 1")), (0, 1, 2))

    def test_ties_that_say_nothing(self):
        self.same(needless(Book("size 9\ntie 0 0 9 up 0\ntie 0 4 1 up 1")), (0,))
        self.same(needless(Book("size 9\nnote 4 1")), ())
        self.same(needless(book=Book("size 9\ntie 4 4 1 down 2\nnote 4 1")), (0,))

    def test_drawn_books(self):
        found = 0
        for book, _ in kept_books(seed=93, many=600, ties=5):
            wanted = tuple(number for number in range(len(book))
                           if tie_told(hung(book.without(number)), book[number]) == ("sure",))
            self.same(needless(book), wanted)
            found += len(wanted)
        self.assertGreater(found, 300)

    def test_far_ties(self):
        book = LONG.with_tie(Tie(10 ** 9, 10 ** 9 + 3 * 10 ** 28, 10 ** 28, 10 ** 28))
        self.same(needless(book), (1,))
        self.same(needless(book.with_tie(LONG[0])), (0, 1, 2))
        self.same(needless(book.with_tie(Tie(0, 1, 1))), (1,))
        self.assertEqual(hangs(book, FAR - 1), hangs(LONG, FAR - 1))

    def test_books_that_no_melody_keeps(self):
        for book in CLASHES:
            self.refused(Clash, book, needless, book)
        self.same(needless(FOUR), ())


if __name__ == "__main__":
    unittest.main()
