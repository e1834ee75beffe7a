"""Point 3, on drawn small books: all melodies, a tie more, turned about, side by side."""

import unittest
from itertools import product
from random import Random

from turnedtunes.comparing import alike, within
from turnedtunes.compass import compass, reach, room
from turnedtunes.counting import many, nth, told
from turnedtunes.hanging import free, free_parts, hangs, heard
from turnedtunes.intervals import follows, interval, needless
from turnedtunes.lines import fits, why
from turnedtunes.ties import Tie
from tests.helper import Case, book_of, drawn_tie, hung, keeps, kept_books, melody_by


def all_of(book):
    return heard(book, 0, book.size)


def two_places(book):
    return product(range(book.size), repeat=2)


def free_places(found):
    return [place for place, what in enumerate(found) if what == ("up", place, 0)]


def members(book, place):
    """All places that hang together with this one."""
    return [nth(book, place, number) for number in range(sum(many(book, place, book.size)))]


class AllMelodies(Case):
    """(a)"""

    def test_what_is_sure_is_so_in_all(self):
        draw = Random(31)
        for book, found in kept_books(seed=31, many=300, greatest=8):
            for _ in range(3):
                melody = melody_by(found, [draw.randint(-30, 30) for _ in range(book.size)])
                self.assertTrue(keeps(book, melody))
                for one, other in two_places(book):
                    word, *amount = interval(book, one, other)
                    if word != "open":
                        self.assertEqual(melody[other], amount[0] + melody[one] * (1 if word == "up" else -1))
                for place, what in enumerate(all_of(book)):
                    if what[0] == "told":
                        self.assertEqual(melody[place], what[1])

    def test_what_is_open_is_not_so_in_some(self):
        for book, found in kept_books(seed=32, many=300, greatest=8):
            # Notes so far apart that no two free places are any amount apart by chance.
            some = melody_by(found, [1000 ** (place + 1) for place in range(book.size)])
            more = melody_by(found, [3 * 1000 ** (place + 1) for place in range(book.size)])
            for one, other in two_places(book):
                if interval(book, one, other) == ("open",):
                    self.assertNotEqual(some[other] - some[one], more[other] - more[one])
                    self.assertNotEqual(some[other] + some[one], more[other] + more[one])
            for place, what in enumerate(all_of(book)):
                self.assertEqual(some[place] == more[place], what[0] == "told")

    def test_all_melodies_of_a_few_notes(self):
        notes = range(-2, 3)
        for book, found in kept_books(seed=33, many=60, greatest=5):
            kept = [melody for melody in product(notes, repeat=book.size) if keeps(book, melody)]
            places = [place for place in range(book.size) if found[place] == ("up", place, 0)]
            made = {tuple(melody_by(all_of(book), dict(zip(places, choice))))
                    for choice in product(notes, repeat=free(book))}
            self.assertTrue(made.issuperset(kept), book.text)

    def test_compass_and_reach(self):
        draw = Random(41)
        for book, found in kept_books(seed=41, many=200, greatest=8):
            width = compass(book)
            for _ in range(4):
                melody = melody_by(found, [draw.randint(-3, 3) for _ in range(book.size)])
                low, high = min(melody), max(melody)
                self.assertGreaterEqual(high - low, width)
                for place, note in enumerate(melody):
                    least, greatest = reach(book, place, low, high)
                    self.assertTrue(low <= least <= note <= greatest <= high)
                # Each free note can be chosen by itself, from its least to its greatest one.
                ends = {place: reach(book, place, low, high) for place in free_places(found)}
                for chosen in ({place: draw.choice(end) for place, end in ends.items()},
                               {place: draw.randint(*end) for place, end in ends.items()}):
                    other = melody_by(found, chosen)
                    self.assertTrue(keeps(book, other) and low <= min(other) and max(other) <= high)
                self.assertEqual(sum(places for _, places in room(book, low, high)), len(ends))

    def test_what_hangs_together(self):
        for book, found in kept_books(seed=42, many=200, greatest=8):
            self.assertEqual(told(book, book.size), sum(what[0] == "told" for what in found))
            for place in free_places(found):
                together = members(book, place)
                for other in range(book.size):
                    wanted = other in together or other == place
                    self.assertEqual(interval(book, place, other) != ("open",), wanted)

    def test_what_is_within_is_so_in_all_melodies(self):
        draw, notes, sure = Random(43), range(-2, 3), 0
        for book, found in kept_books(seed=43, many=150, greatest=4):
            other = book_of(book.size, [drawn_tie(draw, book.size, melody_by(found, [0] * book.size))])
            kept = [melody for melody in product(notes, repeat=book.size) if keeps(book, melody)]
            word = within(book, other)[0]
            sure += word == "within"
            if word == "within":
                self.assertTrue(all(keeps(other, melody) for melody in kept))
            else:
                some = melody_by(found, [1000 ** (place + 1) for place in range(book.size)])
                more = melody_by(found, [3 * 1000 ** (place + 1) for place in range(book.size)])
                self.assertFalse(keeps(other, some) and keeps(other, more))
        self.assertGreater(sure, 30)


class Lines(Case):
    """(b)"""

    def test_each_line_starts_from_lines_ahead_of_it(self):
        for book, _ in kept_books(seed=34, many=200, greatest=9):
            for place in range(book.size):
                for at, (_, reason) in enumerate(why(book, place)):
                    if reason[0] not in ("told", "note"):
                        self.assertLess(max(reason[1:3] if reason[0] == "joined" else reason[1:2]), at)


class MoreTies(Case):
    """(c)"""

    def test_what_is_true_stays_so(self):
        draw, kept = Random(35), 0
        for book, found in kept_books(seed=35, many=600, greatest=9):
            tune = melody_by(found, [draw.randint(-4, 4) for _ in range(book.size)])
            longer = book.with_tie(drawn_tie(draw, book.size, draw.choice((tune, None))))
            if fits(longer)[0] == "clash":
                self.assertIsNone(hung(longer))
                continue
            kept += 1
            self.assertLessEqual(free(longer), free(book))
            self.assertGreaterEqual(compass(longer), compass(book))
            self.assertGreaterEqual(told(longer, book.size), told(book, book.size))
            self.assertEqual((within(longer, book), alike(longer, book)),
                             (("within",), within(book, longer) == ("within",)))
            for place, what in enumerate(all_of(book)):
                if what[0] == "told":
                    self.assertEqual(hangs(longer, place), what)
            for one, other in two_places(book):
                before, after = interval(book, one, other), interval(longer, one, other)
                if before not in (("open",), after):
                    # Both ways are true now: so both places are told.
                    self.assertEqual((before[0], after[0]), ("down", "up"))
                    self.assertEqual(hangs(longer, one)[1] + hangs(longer, other)[1], before[1])
            for tie in book.ties:
                self.assertEqual(follows(longer, tie), ("sure",))
            self.assertLessEqual(set(needless(book)), set(needless(longer)))
        self.assertGreater(kept, 200)

    def test_what_no_melody_keeps_none_keeps_with_a_tie_more(self):
        draw = Random(36)
        for book, _ in kept_books(seed=36, many=200, greatest=8):
            longer = book
            for _ in range(4):
                clashed = fits(longer)[0] == "clash"
                longer = longer.with_tie(drawn_tie(draw, book.size))
                if clashed:
                    self.assertEqual(fits(longer)[0], "clash")


class TurnedAbout(Case):
    """(d)"""

    def test_in_time(self):
        draw = Random(37)
        for book, found in kept_books(seed=37, many=300, greatest=9):
            back, last = ~book, book.size - 1
            self.assertEqual(free(back), free(book))
            self.assertEqual(needless(back), needless(book))
            self.assertEqual((compass(back), told(back, book.size)), (compass(book), told(book, book.size)))
            melody = melody_by(found, [draw.randint(-3, 3) for _ in range(book.size)])
            low, high = min(melody), max(melody)
            self.assertEqual(room(back, low, high), room(book, low, high))
            for place in range(book.size):
                self.assertEqual(reach(back, last - place, low, high), reach(book, place, low, high))
            for place in free_places(found):
                together = [last - other for other in members(book, place)]
                self.assertEqual(members(back, last - place), together[::-1])
            for place in range(book.size):
                if "told" in (found[place][0], hangs(back, last - place)[0]):
                    self.assertEqual(hangs(back, last - place), found[place])
            for one, other in two_places(book):
                self.assertEqual(interval(back, last - one, last - other), interval(book, one, other))
            tie = drawn_tie(draw, book.size, [what[-1] for what in found])
            turned = Tie(book.size - tie.first - tie.length, book.size - tie.second - tie.length, tie.length,
                         tie.amount, down=tie.down, backward=tie.backward)
            self.assertEqual(follows(back, turned)[0], follows(book, tie)[0])

    def test_upside_down(self):
        draw = Random(38)
        for book, found in kept_books(seed=38, many=300, greatest=9):
            other = -book
            self.assertEqual((free(other), free_parts(other)), (free(book), free_parts(book)))
            self.assertEqual(needless(other), needless(book))
            self.assertEqual((compass(other), told(other, book.size)), (compass(book), told(book, book.size)))
            melody = melody_by(found, [draw.randint(-3, 3) for _ in range(book.size)])
            low, high = min(melody), max(melody)
            self.assertEqual(room(other, -high, -low), room(book, low, high))
            for place in range(book.size):
                least, greatest = reach(book, place, low, high)
                self.assertEqual(reach(other, place, -high, -low), (-greatest, -least))
            for place in free_places(found):
                self.assertEqual(many(other, place, book.size), many(book, place, book.size))
                self.assertEqual(members(other, place), members(book, place))
            self.assertEqual(all_of(other), tuple((*what[:-1], -what[-1]) for what in found))
            for one, more in two_places(book):
                word, *amount = interval(book, one, more)
                self.assertEqual(interval(other, one, more), (word, *[-number for number in amount]))
            tie = drawn_tie(draw, book.size, [what[-1] for what in found])
            turned = Tie(tie.first, tie.second, tie.length, -tie.amount, down=tie.down, backward=tie.backward)
            self.assertEqual(follows(other, turned), follows(book, tie))

    def test_what_is_within(self):
        draw = Random(44)
        for one, found in kept_books(seed=44, many=200, greatest=9):
            tune = melody_by(found, [draw.randint(-4, 4) for _ in range(one.size)])
            other = book_of(one.size, [drawn_tie(draw, one.size, tune) for _ in range(2)], [(0, tune[0])])
            word = within(one, other)[0]
            self.assertEqual((within(~one, ~other)[0], within(-one, -other)), (word, within(one, other)))
            self.assertEqual((alike(~one, ~other), alike(-one, -other)), (alike(one, other),) * 2)

    def test_both_can_be_kept_or_none(self):
        draw = Random(39)
        for book, _ in kept_books(seed=39, many=200, greatest=9):
            book = book.with_tie(drawn_tie(draw, book.size)).with_tie(drawn_tie(draw, book.size))
            self.assertEqual(fits(~book)[0], fits(book)[0])
            self.assertEqual(fits(-book)[0], fits(book)[0])


class SideBySide(Case):
    """(e)"""

    def test_each_is_told_as_by_itself(self):
        books = [book for book, _ in kept_books(seed=40, many=300)]
        for one, other in zip(books, books[1:]):
            both = one + other
            moved = [what if what[0] == "told" else (what[0], what[1] + one.size, what[2]) for what in all_of(other)]
            self.assertEqual(all_of(both), (*all_of(one), *moved))
            self.assertEqual(free(both), free(one) + free(other))
            self.assertEqual(told(both, both.size), told(one, one.size) + told(other, other.size))
            self.assertGreaterEqual(compass(both), max(compass(one), compass(other)))
            for book, ahead in ((one, 0), (other, one.size)):
                for place in free_places(all_of(book)):
                    self.assertEqual(many(both, ahead + place, both.size), many(book, place, book.size))
                    self.assertEqual(members(both, ahead + place), [ahead + one for one in members(book, place)])


if __name__ == "__main__":
    unittest.main()
