"""Point 11: the compass of a book, and what has room between two notes."""

import unittest
from collections import Counter
from itertools import product
from random import Random

from turnedtunes.books import Book
from turnedtunes.compass import compass, reach, room
from turnedtunes.errors import BadBounds, Clash, NoPlace, NoRoom
from turnedtunes.hanging import hangs
from turnedtunes.ties import Tie
from tests.helper import FAR, NO_INTEGERS, Case, book_of, drawn_books, drawn_climbs, hung, keeps, kept_books
from tests.test_hanging import CLASHES, FOUR, LONG, SONG, tree_note


def noted(what, note):
    """The note of a place, of what hangs tells of it, the note of its least place being this one."""
    if what[0] == "told":
        return what[1]
    return what[2] + note if what[0] == "up" else what[2] - note


def choices(found, low, high):
    """For each free place, which notes it can have, all tried out; None if there is no room."""
    chosen = {}
    for place, what in enumerate(found):
        if what[0] == "told":
            if not low <= what[1] <= high:
                return None
        elif what[1] == place:
            chosen[place] = list(range(low, high + 1))
        else:
            chosen[what[1]] = [note for note in chosen[what[1]] if low <= noted(what, note) <= high]
    return chosen if all(chosen.values()) else None


def narrowest(found):
    """The compass, of what hangs tells of each place: all ranges tried out that are wide enough for each free note."""
    greatest = max(abs(what[-1]) for what in found) + 1
    width = 0
    for word in ("up", "down"):
        for free in {what[1] for what in found if what[0] == word}:
            notes = [what[2] for what in found if what[:2] == (word, free)]
            width = max(width, max(notes) - min(notes))
    while True:
        if any(choices(found, low, low + width) is not None for low in range(-greatest - width, greatest + 1)):
            return width
        width += 1


class Examples(Case):

    def test_of_the_document(self):
        self.same([compass(LONG), compass(SONG), room(SONG, 4, 7), reach(SONG, 10, 4, 7)],
                  [333333333333333333333333333333, 3, ((2, 3),), (4, 5)])


class Compass(Case):

    def test_without_notes(self):
        self.same([compass(Book(text)) for text in (
            "size 1", "size 5", "size 5\ntie 0 1 4 up 0", "size 5\ntie 0 1 4 up 3", "size 5\ntie 0 1 4 up -3",
            "size 5\ntie 0 2 3 up 3", "size 5\ntie 0 4 1 up -7")], [0, 0, 0, 12, 12, 6, 7])
        self.same(compass(book=FOUR), 1)

    def test_with_notes(self):
        self.same([compass(Book(text)) for text in (
            "size 1\nnote 0 9", "size 3\nnote 0 9", "size 3\nnote 0 9\nnote 2 4",
            "size 5\ntie 0 1 2 up 3\nnote 4 100", "size 5\ntie 0 1 2 up 3\nnote 2 1\nnote 4 8")], [0, 0, 5, 6, 13])

    def test_with_places_told_by_ties_alone(self):
        self.same([compass(Book(text)) for text in (
            "size 4\ntie 0 0 2 down 6", "size 4\ntie 0 0 1 down 6\ntie 3 3 1 down -2",
            "size 4\ntie 0 2 1 down 4\ntie 0 2 1 up 2", "size 3\ntie 0 0 3 down 4 back")], [0, 4, 2, 0])

    def test_what_hangs_up_and_down_on_one(self):
        # x and 9 - x, one of them told otherwise: each of them is as near to the middle as can be.
        self.same([compass(Book(text)) for text in (
            "size 2\ntie 0 1 1 down 9", "size 2\ntie 0 1 1 down 8",
            # x, 8 - x, y, 20 - y: 4 and 10 are the middles.
            "size 4\ntie 0 1 1 down 8\ntie 2 3 1 down 20", "size 4\ntie 0 1 1 down 8\ntie 2 3 1 down 21",
            "size 4\ntie 0 1 1 down 9\ntie 2 3 1 down 21", "size 4\ntie 0 1 1 down 9\ntie 2 3 1 down -21",
            # x, x + 6, 1 - x: the range that x and x + 6 need is wide enough.
            "size 3\ntie 0 1 1 up 6\ntie 0 2 1 down 1",
            # x, 1 - x, 9 - x
            "size 3\ntie 0 1 1 down 1\ntie 0 2 1 down 9",
            "size 3\ntie 0 1 1 down 9\nnote 2 100", "size 3\ntie 0 1 1 down 9\nnote 2 -100")],
            [1, 0, 6, 7, 7, 16, 6, 8, 96, 105])

    def test_small_books_held_against_trying_out_all_melodies(self):
        for book, _ in kept_books(seed=111, many=250, greatest=4):
            wanted, melodies = None, list(product(range(-9, 10), repeat=book.size))
            for melody in melodies:
                width = max(melody) - min(melody)
                if (wanted is None or width < wanted) and keeps(book, melody):
                    wanted = width
            # What lies far from 0 is not tried out here.
            if wanted is not None and wanted <= 6:
                self.same(compass(book), wanted)

    def test_drawn_books_held_against_trying_out_all_ranges(self):
        wide = 0
        for book, found in [*kept_books(seed=112, many=300), *kept_books(seed=113, many=30, greatest=40, ties=12)]:
            wanted = narrowest(found)
            self.same(compass(book), wanted)
            wide += wanted > 2
        self.assertGreater(wide, 50)

    def test_each_part_of_a_climb_told_again(self):
        for down, amount in ((False, 2), (True, 3)):
            climb = Tie(1, 3, 12, amount, down=down)
            for first in range(3, 7):
                for length in range(1, 16 - first):
                    for jump in (-15, 15):
                        book = book_of(15 + length, [climb, Tie(first, 15, length, jump)])
                        found = hung(book)
                        self.same(compass(book), narrowest(found))
                        # Not only the free place that needs the widest range.
                        counts = Counter(len(notes) for notes in choices(found, -30, 40).values())
                        self.same(room(book, -30, 40), tuple(sorted(counts.items())))

    def test_parts_of_climbs_held_against_trying_out_all_ranges(self):
        for book, found in drawn_climbs(seed=118, many=150):
            self.same(compass(book), narrowest(found))


class FarClimbs(Case):

    def test_climbs(self):
        for step, amount in ((1, 1), (3, 1), (7, -2), (10 ** 15 + 1, 10 ** 20)):
            for tie in (Tie(0, step, FAR - step, amount), Tie(step, 0, FAR - step, amount)):
                book = book_of(FAR, [tie])
                rows = (FAR - 1) // step
                wanted = rows * abs(amount)
                self.same(compass(book), wanted)
                # So many of the first places come once more than the others.
                last = FAR - rows * step
                more = ((1 + abs(amount), step - last),) if last < step else ()
                self.same(room(book, 0, wanted), ((1, last), *more))
                self.same(room(book, -5, wanted), tuple((number + 5, places) for number, places in ((1, last), *more)))
                self.refused(NoRoom, (1, wanted), room, book, 1, wanted)
        self.assertGreater(compass(LONG), 10 ** 29)
        self.same((reach(LONG, 0, 0, FAR // 3), reach(LONG, FAR - 1, 0, FAR // 3)), ((0, 0), (FAR // 3, FAR // 3)))
        self.same((reach(LONG, 1, 0, FAR // 3), reach(LONG, FAR - 2, 0, FAR // 3)), ((0, 1), (FAR // 3 - 1, FAR // 3)))

    def test_a_climb_upside_down(self):
        step = 10 ** 20 + 7
        book = book_of(FAR, [Tie(0, step, FAR - step, 10 ** 29, down=True)])
        self.same(compass(book), 0)
        self.same(room(book, 0, 10 ** 29), ((10 ** 29 + 1, step),))
        self.same(room(book, 5, 10 ** 29), ((10 ** 29 - 9, step),))
        self.same(reach(book, FAR - 1, 5, 10 ** 29), (5, 10 ** 29 - 5))
        self.refused(NoRoom, (0, 5 * 10 ** 28 - 1), room, book, 0, 5 * 10 ** 28 - 1)

    def test_two_climbs_that_join_all_places_just_once(self):
        for step in (6 * 10 ** 29 + 1, 10 ** 20 + 3, 37):
            other = FAR + 1 - step
            book = book_of(FAR, [Tie(0, step, FAR - step, 5), Tie(0, other, FAR - other, -8)])
            # Going round by both, each step goes up: from the place step - 1 to the place other - 1.
            wanted = 5 * (other - 1) + 8 * (step - 1)
            self.same(compass(book), wanted)
            self.same(room(book, -3, wanted - 3), ((1, 1),))
            self.same(room(book, -3, wanted + 6), ((10, 1),))
            lowest = tree_note(step - 1, step, other, 5, -8)
            for place in (0, 10 ** 17, step - 1, other - 1, FAR - 1):
                above = tree_note(place, step, other, 5, -8) - lowest
                self.same(reach(book, place, 0, wanted + 2), (above, above + 2))
            self.refused(NoRoom, (1, wanted), room, book, 1, wanted)

    def test_mirrors(self):
        book = book_of(FAR, [Tie(0, 0, FAR, 9, down=True, backward=True)])
        self.same([compass(book), room(book, 4, 5), room(book, 0, 5), room(book, 0, 9), room(book, -10, 9)],
                  [1] + [((number, FAR // 2),) for number in (2, 2, 10, 10)])
        self.same((reach(book, 3, -10, 9), reach(book, FAR - 4, -10, 12)), ((0, 9), (-3, 12)))
        for low, high in ((5, 5), (4, 4), (5, 10 ** 40), (-10 ** 40, 4)):
            self.refused(NoRoom, (low, high), room, book, low, high)
        # Two mirrors make a climb of all places, by steps of 1 that go up by 3.
        book = book_of(FAR, [Tie(0, 0, FAR, 5, down=True, backward=True),
                             Tie(0, 0, FAR - 1, 2, down=True, backward=True)])
        least = (5 - 3 * (FAR - 1)) // 2
        self.same(compass(book), 3 * (FAR - 1))
        self.same(room(book, least, least + 3 * (FAR - 1)), ())
        self.same(reach(book, 7, -FAR * 2, FAR * 2), (least + 21, least + 21))
        self.refused(NoRoom, (least + 1, FAR * 2), room, book, least + 1, FAR * 2)

    def test_a_climb_and_what_it_is_upside_down(self):
        # The melody climbs by 1 at each place but the last ones, which are the first ones upside down.
        half = FAR // 2
        book = book_of(FAR, [Tie(0, 1, half - 1, 1), Tie(0, half, half, 7, down=True)])
        # x to x + half - 1, and 7 - x - half + 1 to 7 - x.
        wanted = half - 1
        self.same(compass(book), wanted)
        low = (7 - (half - 1)) // 2
        self.same(room(book, low, low + wanted), ((1, 1),))
        self.same(room(book, low, low + wanted + 3), ((1, 1),))
        self.same(room(book, low - 3, low + wanted + 3), ((7, 1),))
        self.same(reach(book, FAR - 1, low - 3, low + wanted + 3), (low - 3, low + 3))

    def test_many_ties_at_once(self):
        steps = [6 * (10 ** k + k) for k in (28, 26, 20, 19, 17, 11, 10, 7, 5, 4, 3)]
        ties = [Tie(k, k + step, FAR - step - k * k, 7 * step) for k, step in enumerate(steps)]
        ties.append(Tie(5, 5, FAR - 5, 7 * (FAR + 4), down=True, backward=True))
        book = book_of(FAR, ties)
        # By their rests by 6 places are x + 7p, told, 7p - x, y + 7(p - 3), told, and 7(p + 3) - y.
        last = {rest: FAR - 1 - (FAR - 1 - rest) % 6 for rest in range(6)}
        lows = [7, (0 + 14) // 2, (0 + 7 * 8) // 2]
        highs = [7 * last[4], 7 * last[1], (7 * (last[0] + last[2]) + 1) // 2, (7 * (last[3] + last[5]) + 1) // 2]
        self.same(compass(book), max(highs) - min(lows))
        low, high = min(lows), max(highs)
        for rest in range(6):
            for place in (rest, last[rest]):
                word, *found = hangs(book, place)
                least, greatest = reach(book, place, low, high)
                self.assertTrue(low <= least <= greatest <= high)
                if word == "told":
                    self.assertEqual((least, greatest), (found[0], found[0]))
        self.assertEqual(sum(places for _, places in room(book, low, high)), 2)


class Room(Case):

    def test_books_without_free_places(self):
        book = Book("size 2\ntie 0 0 2 down 6")
        self.same([room(book, 3, 3), room(book, -9, 9), reach(book, 1, -9, 9)], [(), (), (3, 3)])
        self.refused(NoRoom, (4, 9), room, book, 4, 9)
        self.refused(NoRoom, (-9, 2), room, book, -9, 2)

    def test_each_number_of_choices_once(self):
        book = Book("size 12\ntie 0 1 2 up 3\ntie 4 5 1 up 4\ntie 6 7 1 up -6\ntie 8 9 1 down 10")
        # 0 to 2 span 6, 4 and 5 span 4, 6 and 7 span 6; 3, 10 and 11 are alone.
        self.same(room(book, 0, 10), ((5, 2), (7, 1), (11, 4)))
        self.same(room(book, 0, 6), ((1, 2), (3, 2), (7, 3)))
        self.same(room(book, 4, 10), ((1, 2), (3, 2), (7, 3)))
        self.same(room(book=book, low=-1, high=7), ((3, 2), (5, 2), (9, 3)))
        self.same([reach(book, place, 0, 10) for place in (0, 1, 2, 3, 6, 7, 8, 9)],
                  [(0, 4), (3, 7), (6, 10), (0, 10), (6, 10), (0, 4), (0, 10), (0, 10)])
        self.same(reach(book=book, place=8, low=2, high=20), (2, 8))

    def test_drawn_books_held_against_trying_out_all_notes(self):
        draw, none, downs = Random(114), 0, 0
        for book, found in [*kept_books(seed=114, many=500), *kept_books(seed=115, many=40, greatest=40, ties=12),
                            *drawn_climbs(seed=119, many=200)]:
            width = compass(book)
            for _ in range(4):
                low = draw.randint(-width - 3, 3)
                high = max(low, low + width + draw.choice((-1, 0, 1, 4)))
                chosen = choices(found, low, high)
                if chosen is None:
                    none += 1
                    self.refused(NoRoom, (low, high), room, book, low, high)
                    self.refused(NoRoom, (low, high), reach, book, book.size - 1, low, high)
                    continue
                counts = Counter(len(notes) for notes in chosen.values())
                self.same(room(book, low, high), tuple(sorted(counts.items())))
                for place, what in enumerate(found):
                    notes = [noted(what, note) for note in chosen.get(what[1], [0])]
                    self.same(reach(book, place, low, high), (min(notes), max(notes)))
                    downs += what[0] == "down"
        self.assertGreater(none, 300)
        self.assertGreater(downs, 100)

    def test_small_books_held_against_trying_out_all_melodies_in_a_range(self):
        for book, found in kept_books(seed=116, many=150, greatest=4):
            for low, high in ((-2, 3), (0, 3), (1, 1)):
                kept = [melody for melody in product(range(low, high + 1), repeat=book.size) if keeps(book, melody)]
                if not kept:
                    self.refused(NoRoom, (low, high), room, book, low, high)
                    continue
                free = [place for place in range(book.size) if found[place] == ("up", place, 0)]
                counts = Counter(len({melody[place] for melody in kept}) for place in free)
                self.same(room(book, low, high), tuple(sorted(counts.items())))
                for place in range(book.size):
                    notes = [melody[place] for melody in kept]
                    self.same(reach(book, place, low, high), (min(notes), max(notes)))


class Refused(Case):

    def test_bounds_that_are_none(self):
        for book in (SONG, LONG, CLASHES[0], CLASHES[-1]):
            for wrong in NO_INTEGERS:
                for bounds in ((wrong, 5), (5, wrong), (wrong, wrong)):
                    self.refused(BadBounds, bounds, room, book, *bounds)
                    self.refused(BadBounds, bounds, reach, book, 0, *bounds)
            for bounds in ((5, 4), (0, -1), (FAR, -FAR)):
                self.refused(BadBounds, bounds, room, book, *bounds)
                self.refused(BadBounds, bounds, reach, book, 0, *bounds)

    def test_no_places(self):
        for book in (SONG, LONG, CLASHES[0], CLASHES[-1]):
            for wrong in NO_INTEGERS + (-1, book.size, FAR, 10 ** 40):
                self.refused(NoPlace, wrong, reach, book, wrong, 0, 9)
                self.refused(NoPlace, wrong, reach, book, wrong, 9, 0)
                self.refused(NoPlace, wrong, reach, book, wrong, None, None)

    def test_no_room(self):
        for bounds in ((5, 7), (4, 6), (-99, 6), (5, 99), (0, 0)):
            self.refused(NoRoom, bounds, room, SONG, *bounds)
            for place in (0, 1, 10):
                self.refused(NoRoom, bounds, reach, SONG, place, *bounds)
        self.same((room(SONG, 4, 7), room(Book("size 1"), 5, 5)), (((2, 3),), ((1, 1),)))

    def test_books_that_no_melody_keeps(self):
        for book in CLASHES:
            self.refused(Clash, book, compass, book)
            for bounds in ((0, 0), (-FAR, FAR)):
                self.refused(Clash, book, room, book, *bounds)
                self.refused(Clash, book, reach, book, book.size - 1, *bounds)
        for book in drawn_books(seed=117, many=200):
            if hung(book) is None:
                self.refused(Clash, book, compass, book)
                self.refused(Clash, book, room, book, 0, 0)
                self.refused(Clash, book, reach, book, 0, 0, 0)


class Unchanged(Case):

    def test_equal_calls_return_equal_results(self):
        for book in (SONG, LONG):
            before = book.text, book.ties, book.notes
            once = compass(book), room(book, 0, FAR), reach(book, 5, 0, FAR)
            self.same((compass(book), room(book, 0, FAR), reach(book, 5, 0, FAR)), once)
            self.assertEqual((book.text, book.ties, book.notes), before)


if __name__ == "__main__":
    unittest.main()
