"""Point 10: how many places hang together, which they are, and how many are told."""

import unittest

from turnedtunes.books import Book
from turnedtunes.counting import many, nth, told
from turnedtunes.errors import BadNumber, Clash, IsTold, NoNumber, NoPlace
from turnedtunes.hanging import hangs
from turnedtunes.ties import Tie
from tests.helper import FAR, NO_INTEGERS, Case, book_of, drawn_books, drawn_climbs, hung, kept_books
from tests.test_hanging import CLASHES, FOUR, LONG, SONG

WAYS = ("up", "down")


def together(found, place):
    """The places that hang with this one, ascending, of what hangs tells of all places."""
    return [other for other, what in enumerate(found) if what[0] in WAYS and what[1] == found[place][1]]


def ways(found, places):
    """(up, down): how many of these places hang up, and down."""
    return tuple(sum(found[place][0] == word for place in places) for word in WAYS)


class Examples(Case):

    def test_of_the_document(self):
        self.same([many(SONG, 5, 12), many(LONG, 0, FAR), nth(LONG, 1, 10), nth(SONG, 5, 2), told(SONG, 12)],
                  [(2, 1), (333333333333333333333333333334, 0), 31, 10, 3])


class Small(Case):

    def test_up_and_down_on_one_least_place(self):
        book = Book("size 9\ntie 1 3 2 down 4\ntie 3 5 2 up 1\ntie 1 7 1 up 0")
        # 1, 3, 5 and 7 hang together: 1 and 7 up, 3 and 5 down.
        for place in (1, 3, 5, 7):
            self.same([many(book, place, upto) for upto in range(10)],
                      [(0, 0), (0, 0), (1, 0), (1, 0), (1, 1), (1, 1), (1, 2), (1, 2), (2, 2), (2, 2)])
            self.same([nth(book, place, number) for number in range(4)], [1, 3, 5, 7])
        self.same((many(book, 0, 9), many(book, 8, 9), nth(book, 8, 0)), ((1, 0), (1, 0), 8))

    def test_the_least_place_itself_hangs_up(self):
        self.same((many(Book("size 1"), 0, 1), many(Book("size 1"), 0, 0)), ((1, 0), (0, 0)))
        book = Book("size 3\ntie 0 1 2 down 1")
        for place in range(3):
            self.same([many(book, place, upto) for upto in range(4)], [(0, 0), (1, 0), (1, 1), (2, 1)])

    def test_told_places(self):
        book = Book("size 6\ntie 0 3 3 up 1\nnote 4 2")
        self.same([told(book, upto) for upto in range(7)], [0, 0, 1, 1, 1, 2, 2])
        self.same((many(book, 0, 6), many(book, 5, 6)), ((2, 0), (2, 0)))
        self.same([told(Book("size 3"), upto) for upto in (0, 3)], [0, 0])
        self.same([told(Book("size 3\ntie 0 0 3 down 2"), upto) for upto in range(4)], [0, 1, 2, 3])
        # In the middle of what is itself upside down and backward, one place is told.
        self.same([told(Book("size 3\ntie 0 0 3 down 2 back"), upto) for upto in range(4)], [0, 0, 1, 1])

    def test_by_names(self):
        self.same(many(book=SONG, place=5, upto=9), (2, 0))
        self.same(nth(book=SONG, place=10, number=1), 5)
        self.same(told(book=SONG, upto=5), 2)

    def test_books_held_against_joining_all_places_one_by_one(self):
        downs = 0
        for book, found in [*kept_books(seed=101, many=500), *kept_books(seed=102, many=40, greatest=60, ties=12),
                            *drawn_climbs(seed=105, many=60)]:
            certain = [place for place in range(book.size) if found[place][0] == "told"]
            for upto in range(book.size + 1):
                self.same(told(book, upto), sum(place < upto for place in certain))
            for place in range(0, book.size, 1 + book.size // 20):
                if place in certain:
                    continue
                places = together(found, place)
                for upto in range(book.size + 1):
                    self.same(many(book, place, upto), ways(found, [one for one in places if one < upto]))
                self.same([nth(book, place, number) for number in range(len(places))], places)
                self.refused(NoNumber, len(places), nth, book, place, len(places))
                downs += ways(found, places)[1] > 0
        self.assertGreater(downs, 300)

    def test_all_places_are_counted_once(self):
        for book, found in kept_books(seed=103, many=200):
            free = [place for place in range(book.size) if found[place] == ("up", place, 0)]
            for upto in (book.size // 2, book.size):
                self.assertEqual(told(book, upto) + sum(sum(many(book, place, upto)) for place in free), upto)


class FarPlaces(Case):

    def test_one_part_that_climbs(self):
        for book in (LONG, book_of(FAR, [Tie(3, 0, FAR - 3, -1)])):
            for place in (0, 1, 2, 10 ** 20, FAR - 1):
                for upto in (0, 1, 2, 3, 4, 10 ** 15, FAR // 2, FAR - 1, FAR):
                    self.same(many(book, place, upto), ((upto + 2 - place % 3) // 3, 0))
                for number in (0, 1, 10 ** 15, FAR // 3 - 1):
                    self.same(nth(book, place, number), place % 3 + 3 * number)
            self.same(nth(book, 0, FAR // 3), FAR - 1)
            for place in (1, 2):
                self.refused(NoNumber, FAR // 3, nth, book, place, FAR // 3)
            self.same(told(book, FAR), 0)

    def test_one_part_that_climbs_upside_down(self):
        step = 10 ** 17 + 7
        book = book_of(FAR, [Tie(0, step, FAR - step, 5, down=True)])
        for place in (0, 3, step - 1, 10 ** 25, FAR - 1):
            least = place % step
            for upto in (least, least + 1, step + least, step + least + 1, 10 ** 20, FAR):
                rows = (upto - least + step - 1) // step
                self.same(many(book, place, upto), ((rows + 1) // 2, rows // 2))
            for number in (0, 1, 2, 10 ** 9 + 1):
                self.same(nth(book, place, number), least + number * step)

    def test_two_climbs_that_overlap(self):
        # One goes by steps of 6, the other one, in the middle, by steps of 4: together by steps of 2.
        first, end = 10 ** 29, 2 * 10 ** 29
        book = book_of(FAR, [Tie(0, 6, FAR - 6, 3), Tie(first, first + 4, end - first, 2)])
        for place in (0, 1, 10 ** 10, 10 ** 10 + 1, FAR - 1):
            for upto in (0, 1, 2, 9, 10 ** 20, FAR - 1, FAR):
                self.same(many(book, place, upto), ((upto + 1 - place % 2) // 2, 0))
            self.same(nth(book, place, 10 ** 28), 2 * 10 ** 28 + place % 2)

    def test_two_climbs_that_join_all_places_just_once(self):
        for step in (6 * 10 ** 29 + 1, 10 ** 20 + 3):
            other = FAR + 1 - step
            book = book_of(FAR, [Tie(0, step, FAR - step, 5), Tie(0, other, FAR - other, -8)])
            for place in (0, 10 ** 15, FAR - 1):
                for upto in (0, 1, 10 ** 28 + 3, FAR):
                    self.same(many(book, place, upto), (upto, 0))
                for number in (0, 17, 10 ** 28 + 3, FAR - 1):
                    self.same(nth(book, place, number), number)
            self.refused(NoNumber, FAR, nth, book, 0, FAR)

    def test_mirrors(self):
        book = book_of(FAR, [Tie(0, 0, FAR, 9, down=True, backward=True)])
        for place in (0, 7, 10 ** 20, FAR // 2 - 1):
            other = FAR - 1 - place
            for one in (place, other):
                self.same([many(book, one, upto) for upto in (place, place + 1, other, other + 1, FAR)],
                          [(0, 0), (1, 0), (1, 0), (1, 1), (1, 1)])
                self.same((nth(book, one, 0), nth(book, one, 1)), (place, other))
                self.refused(NoNumber, 2, nth, book, one, 2)
        # Both mirrors together go by steps of 7: 10^30 places leave the rest 1.
        book = book_of(FAR, [Tie(0, 0, FAR, backward=True), Tie(0, 0, FAR - 7, backward=True)])
        self.assertEqual(FAR % 7, 1)
        for place in range(7):
            # Place p and place -p are mirrors.
            both = sorted({place, -place % 7})
            wanted = sum((FAR - 1 - one) // 7 + 1 for one in both)
            self.same(many(book, place, FAR), (wanted, 0))
            self.same([nth(book, place, number) for number in range(3)],
                      sorted(one + 7 * row for one in both for row in range(3))[:3])

    def test_many_ties_at_once(self):
        steps = [6 * (10 ** k + k) for k in (28, 26, 20, 19, 17, 11, 10, 7, 5, 4, 3)]
        ties = [Tie(k, k + step, FAR - step - k * k, 7 * step) for k, step in enumerate(steps)]
        ties.append(Tie(5, 5, FAR - 5, 7 * (FAR + 4), down=True, backward=True))
        book = book_of(FAR, ties)

        def of(rest, upto):
            return (upto + 5 - rest) // 6
        for upto in (0, 1, 7, 10 ** 12 + 5, FAR // 3, FAR - 1, FAR):
            self.same(many(book, 0, upto), (of(0, upto), of(2, upto)))
            self.same(many(book, FAR - 1, upto), (of(3, upto), of(5, upto)))
            self.same(told(book, upto), of(1, upto) + of(4, upto))
        self.same([nth(book, 2, number) for number in (0, 1, 2, 3, 2 * 10 ** 20)], [0, 2, 6, 8, 6 * 10 ** 20])
        self.same([nth(book, 5, number) for number in (0, 1, 2, 3, 2 * 10 ** 20 + 1)], [3, 5, 9, 11, 6 * 10 ** 20 + 5])

    def test_a_far_note_tells_all_that_hangs_with_it(self):
        book = LONG.with_note(FAR - 1, 0)
        for upto in (0, 1, 3, 4, 10 ** 20, FAR):
            self.same(told(book, upto), (upto + 2) // 3)
        self.same(many(book, 10 ** 20, FAR - 1), (FAR // 3, 0))
        self.refused(IsTold, 0, many, book, 0, 1)


class Refused(Case):

    def test_no_places(self):
        for book in (SONG, FOUR, LONG, *CLASHES):
            for wrong in NO_INTEGERS + (-1, -FAR, book.size, 10 ** 40):
                self.refused(NoPlace, wrong, many, book, wrong, None)
                self.refused(NoPlace, wrong, many, book, wrong, 0)
                self.refused(NoPlace, wrong, nth, book, wrong, None)
                self.refused(NoPlace, wrong, nth, book, wrong, 0)

    def test_numbers_from_0_to_the_size(self):
        for book in (SONG, FOUR, LONG, *CLASHES):
            for wrong in NO_INTEGERS + (-1, -FAR, book.size + 1, 10 ** 40):
                # 4 and 0 are told in SONG: this is refused behind the number.
                self.refused(BadNumber, wrong, many, book, 0, wrong)
                self.refused(BadNumber, wrong, told, book, wrong)

    def test_told_places(self):
        for place in (0, 4, 11):
            self.refused(IsTold, place, many, SONG, place, 0)
            self.refused(IsTold, place, many, SONG, place, 12)
            for number in NO_INTEGERS + (-1, 0, 1, FAR):
                self.refused(IsTold, place, nth, SONG, place, number)

    def test_no_numbers_of_a_place(self):
        for wrong in NO_INTEGERS + (-1, -2, 3, 4, FAR):
            self.refused(NoNumber, wrong, nth, SONG, 5, wrong)
        for wrong in NO_INTEGERS + (-1, FAR // 3 + 1, FAR, 10 ** 40):
            self.refused(NoNumber, wrong, nth, LONG, 0, wrong)

    def test_books_that_no_melody_keeps(self):
        for book in CLASHES:
            for place in (0, book.size - 1):
                self.refused(Clash, book, many, book, place, 0)
                self.refused(Clash, book, nth, book, place, 0)
                # A clash stands ahead of a wrong number of a place.
                self.refused(Clash, book, nth, book, place, None)
                self.refused(Clash, book, nth, book, place, -1)
            self.refused(Clash, book, told, book, 0)
            self.refused(Clash, book, told, book, book.size)
        for book in drawn_books(seed=104, many=200):
            if hung(book) is None:
                self.refused(Clash, book, many, book, 0, 0)
                self.refused(Clash, book, nth, book, 0, 0)
                self.refused(Clash, book, told, book, 0)


class Unchanged(Case):

    def test_equal_calls_return_equal_results(self):
        for book in (SONG, LONG):
            before = book.text, book.ties, book.notes, hangs(book, 5)
            once = many(book, 5, 11), nth(book, 5, 1), told(book, 11)
            self.same((many(book, 5, 11), nth(book, 5, 1), told(book, 11)), once)
            self.assertEqual((book.text, book.ties, book.notes, hangs(book, 5)), before)


if __name__ == "__main__":
    unittest.main()
