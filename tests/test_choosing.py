"""Point 12: the cheapest further ties and notes by which wishes come true."""

import unittest
from itertools import combinations
from random import Random

from turnedtunes.books import Book
from turnedtunes.choosing import cheapest
from turnedtunes.errors import BadOffers, BadWishes, Clash
from turnedtunes.ties import Tie
from tests.helper import FAR, NO_INTEGERS, Case, between, book_of, drawn_tie, hung, kept_books, text
from tests.test_hanging import CLASHES, LONG, SONG

OFFERS = (("note 0 4", 3), ("tie 0 4 2 up 2", 1), ("tie 1 4 1 up 0", 2))
BASE = Book("size 6\ntie 0 2 2 up 1")
SURE = (("sure", 0, 5),)


def holds(found, wish):
    """Whether a wish holds, of what hangs tells of all places."""
    if wish[0] == "told":
        return found[wish[1]][0] == "told"
    if wish[0] == "sure":
        return between(found[wish[1]], found[wish[2]]) != ("open",)
    return sum(what == ("up", place, 0) for place, what in enumerate(found)) <= wish[1]


def with_choice(book, choice):
    """What hangs tells of all places of the book with these lines; None if the choice does not count."""
    ties = [line for line, _ in choice if line.startswith("tie")]
    notes = [line for line, _ in choice if line.startswith("note")]
    places = [line.split(" ")[1] for line in notes]
    if len(set(places)) < len(places) or len(book.ties) + len(ties) > 12 or len(book.notes) + len(notes) > 12:
        return None
    lines = book.text.split("\n")
    ahead = 1 + len(book.ties)
    return hung(Book(text(*lines[:ahead], *ties, *lines[ahead:], *notes)))


def chosen(book, offers, wishes):
    """What cheapest tells, all choices tried out."""
    choices = [choice for many in range(len(offers) + 1) for choice in combinations(offers, many)]
    choices.sort(key=lambda choice: (sum(price for _, price in choice), len(choice), choice))
    reasons = []
    for choice in choices:
        found = with_choice(book, choice)
        if found is not None:
            failing = [number for number, wish in enumerate(wishes) if not holds(found, wish)]
            if not failing:
                return "choice", sum(price for _, price in choice), choice, tuple(reasons)
            reasons.append((choice, failing[0]))
    return "none", tuple(reasons)


class Examples(Case):

    def test_of_the_document(self):
        found = cheapest(BASE, OFFERS, SURE)
        self.same(found[:3], ("choice", 3, (("tie 0 4 2 up 2", 1), ("tie 1 4 1 up 0", 2))))
        self.same(found[3], (((), 0), (OFFERS[1:2], 0), (OFFERS[2:], 0), (OFFERS[:1], 0)))


class Choices(Case):

    def test_the_first_choice_is_none(self):
        wishes = (("told", 4), ("sure", 5, 10), ("free", 3))
        self.same(cheapest(SONG, (("note 1 0", 1),), wishes), ("choice", 0, (), ()))
        self.same(cheapest(book=SONG, offers=(("note 1 0", 1),), wishes=(("sure", 4, 4),)), ("choice", 0, (), ()))

    def test_each_wish_by_itself(self):
        book, offers = Book("size 3"), (("note 0 1", 1), ("tie 0 1 1 up 2", 2), ("tie 1 2 1 down 0", 3))
        nothing = ((), 0)
        self.same(cheapest(book, offers, (("told", 0),)), ("choice", 1, offers[:1], (nothing,)))
        self.same(cheapest(book, offers, (("sure", 0, 1),)),
                  ("choice", 2, offers[1:2], (nothing, (offers[:1], 0))))
        self.same(cheapest(book, offers, (("free", 2),)), ("choice", 1, offers[:1], (nothing,)))
        self.same(cheapest(book, offers, (("free", 3),)), ("choice", 0, (), ()))
        self.same(cheapest(book, offers, (("free", 10 ** 39),)), ("choice", 0, (), ()))
        self.same(cheapest(book, offers, (("free", 0),))[:3], ("choice", 6, offers))
        # A place is at a sure distance from itself, and from none that is told if it is not.
        self.same(cheapest(book, offers, (("sure", 2, 2),)), ("choice", 0, (), ()))

    def test_the_sequence_by_price_then_how_many_then_as_tuples(self):
        offers = (("note 0 1", 3), ("note 1 1", 1), ("note 2 1", 2), ("note 3 1", 2))
        a, b, c, d = offers
        found = cheapest(Book("size 5"), offers, (("told", 4),))
        self.same(found, ("none", tuple((choice, 0) for choice in (
            (), (b,), (c,), (d,), (a,), (b, c), (b, d), (a, b), (c, d), (a, c), (a, d), (b, c, d), (a, b, c),
            (a, b, d), (a, c, d), (a, b, c, d)))))

    def test_the_first_wish_that_does_not_hold(self):
        offers = (("note 0 1", 1), ("note 1 1", 1), ("note 2 1", 1))
        a, b, c = offers
        wishes = (("told", 1), ("free", 1), ("told", 0))
        self.same(cheapest(Book("size 3"), offers, wishes),
                  ("choice", 2, (a, b), (((), 0), ((a,), 0), ((b,), 1), ((c,), 0))))
        self.same(cheapest(Book("size 3"), offers, (wishes[0], wishes[0])), ("choice", 1, (b,), (((), 0), ((a,), 0))))

    def test_choices_that_no_melody_keeps_do_not_count(self):
        offers = (("tie 0 1 1 up 1", 1), ("tie 0 1 1 up 2", 2), ("tie 1 2 1 up 1", 3))
        a, b, c = offers
        self.same(cheapest(Book("size 3"), offers, (("told", 0),)),
                  ("none", (((), 0), ((a,), 0), ((b,), 0), ((c,), 0), ((a, c), 0), ((b, c), 0))))
        self.same(cheapest(Book("size 3\ntie 0 1 1 up 2"), offers, (("sure", 0, 2),)),
                  ("choice", 3, (c,), (((), 0), ((b,), 0))))
        self.same(cheapest(Book("size 3"), (("tie 0 0 1 up 1", 1),), (("told", 0),)), ("none", (((), 0),)))

    def test_choices_that_tell_a_place_twice_do_not_count(self):
        offers = (("note 0 1", 1), ("note 0 2", 2), ("note 1 1", 4))
        a, b, c = offers
        self.same(cheapest(Book("size 3"), offers, (("told", 2),)),
                  ("none", (((), 0), ((a,), 0), ((b,), 0), ((c,), 0), ((a, c), 0), ((b, c), 0))))

    def test_no_more_than_twelve_ties_and_notes(self):
        ties = [f"tie 0 0 {length} up 0" for length in range(1, 13)]
        notes = [f"note {place} 0" for place in range(12)]
        offers = (("note 12 0", 2), ("note 13 0", 2), ("tie 12 13 1 up 0", 1), ("tie 13 12 1 up 0", 1))
        a, b, c, d = offers
        wishes = (("told", 14),)

        def counted(*lines):
            return [choice for choice, _ in cheapest(Book(text("size 15", *lines)), offers, wishes)[1]]
        self.assertEqual(counted(*ties, *notes), [()])
        self.assertEqual(counted(*ties[1:], *notes[1:]), [(), (c,), (d,), (a,), (b,), (a, c), (a, d), (b, c), (b, d)])
        self.assertEqual(counted(*ties, *notes[2:]), [(), (a,), (b,), (a, b)])
        self.assertEqual(counted(*ties[2:], *notes), [(), (c,), (d,), (c, d)])
        self.assertEqual(len(counted(*ties[2:], *notes[2:])), 16)

    def test_one_tie_by_two_lines(self):
        offers = (("tie 0 1 1 up 1", 2), ("tie 0 1 1 up 1 back", 1))
        self.same(cheapest(Book("size 2"), offers, (("sure", 0, 1),)), ("choice", 1, offers[1:], (((), 0),)))

    def test_far_places(self):
        offers = (("note 1 7", 9), (f"note {FAR - 1} 0", 5), ("tie 0 1 1 up 0", 4), (f"tie 0 {FAR - 1} 1 up 0", 1))
        a, b, c, d = offers
        found = cheapest(LONG, offers, (("told", 0), ("free", 1)))
        # The second tie clashes with the climb: so no choice with it counts.
        self.same(found, ("choice", 9, (b, c), (((), 0), ((c,), 0), ((b,), 1), ((a,), 0))))

    def test_drawn_books_held_against_trying_all_choices(self):
        draw, counts = Random(131), {}
        for book, found in kept_books(seed=131, many=400, greatest=8, ties=3):
            tune = [what[-1] for what in found]
            lines = {}
            for _ in range(draw.randint(1, 4)):
                tie = drawn_tie(draw, book.size, draw.choice((tune, None)))
                place = draw.randrange(book.size)
                line = draw.choice((f"tie {tie.text}", f"note {place} {tune[place] + draw.choice((0, 0, 1))}"))
                if not (line.startswith("note") and place in dict(book.notes)):
                    lines[line] = draw.randint(1, 4)
            if not lines:
                continue
            wishes = tuple(draw.choice((("told", draw.randrange(book.size)), ("free", draw.randint(0, 3)),
                                        ("sure", draw.randrange(book.size), draw.randrange(book.size))))
                           for _ in range(draw.randint(1, 3)))
            offers = tuple(sorted(lines.items()))
            wanted = chosen(book, offers, wishes)
            self.same(cheapest(book, offers, wishes), wanted)
            # What is returned may be handed in again, and the same call returns the same.
            self.same(cheapest(book, offers, wishes), wanted)
            counts[wanted[0]] = counts.get(wanted[0], 0) + (len(wanted[-1]) > 1)
        self.assertGreater(min(counts.values()), 20)


class Refused(Case):

    def bad_offers(self, *values):
        for value in values:
            self.refused(BadOffers, value, cheapest, BASE, value, SURE)
            self.refused(BadOffers, value, cheapest, BASE, value, None)
            self.refused(BadOffers, value, cheapest, Book("size 6\ntie 0 0 1 up 1"), value, SURE)

    def bad_wishes(self, *values):
        for value in values:
            self.refused(BadWishes, value, cheapest, BASE, OFFERS, value)
            self.refused(BadWishes, value, cheapest, Book("size 6\ntie 0 0 1 up 1"), OFFERS, value)

    def test_what_is_no_tuple_of_offers(self):
        pair = OFFERS[0]
        self.bad_offers(*NO_INTEGERS, 0, 1, pair, list(OFFERS), dict(OFFERS), (list(pair),), (pair, None),
                        (pair + (1,),), (pair[:1],), ((),), (pair[0],), ((pair,),), (pair[::-1],), (None,))

    def test_from_one_to_four_offers(self):
        five = tuple((f"note {place} 0", 1) for place in range(5))
        self.bad_offers((), five)
        self.same(cheapest(Book("size 4"), five[:4], (("free", 0),))[:3], ("choice", 4, five[:4]))
        self.same(cheapest(BASE, five[:1], (("free", 0),)), ("none", (((), 0), (five[:1], 0))))

    def test_offers_that_do_not_ascend(self):
        a, b, c = OFFERS
        self.bad_offers((b, a), (a, c, b), (c, b, a), (b, b), (a, b, b))
        self.bad_offers((("note 1 0", 1), ("note 0 0", 2)), (("note 10 0", 1), ("note 1 0", 1)))
        # As strings, 10 stands ahead of 2.
        other = Book("size 20")
        self.same(cheapest(other, (("note 10 0", 1), ("note 2 0", 1)), (("told", 2),))[0], "choice")
        self.refused(BadOffers, (("note 2 0", 1), ("note 10 0", 1)), cheapest, other,
                     (("note 2 0", 1), ("note 10 0", 1)), (("told", 2),))

    def test_no_line_twice(self):
        self.bad_offers((("note 0 4", 3), ("note 0 4", 4)), (OFFERS[0], *OFFERS[1:2], ("tie 0 4 2 up 2", 2)))
        # In other words it is another line.
        self.same(cheapest(BASE, (("tie 0 0 1 up 0", 1), ("tie 0 0 1 up 0 back", 1)), (("free", 6),))[0], "choice")

    def test_prices(self):
        for price in NO_INTEGERS + (0, -1, 10, FAR):
            self.bad_offers((("note 0 4", price),), (("note 0 4", 1), ("note 1 4", price)))
        for price in (1, 9):
            self.same(cheapest(BASE, (("note 0 4", price),), (("told", 0),))[1], price)

    def test_lines(self):
        for line in NO_INTEGERS + (0, "", " ", "note", "note 0", "note 0 0 0", "note 6 0", "note -1 0", "note 00 0",
                                   "note 0 00", "note  0 0", "note 0 0 ", " note 0 0", "note 0 x", "note 0 0\n", "tie",
                                   "tie ", "tie 0 0 1 up", "tie 0 0 1 up 0 up", "tie 0 0 7 up 0", "tie 0 6 1 up 0",
                                   "tie 6 0 1 up 0", "tie 0 0 0 up 0", "tie  0 0 1 up 0", "tie 0 0 1 up 0 ",
                                   "0 0 1 up 0", "hear 0 0 1 up 0", "size 6", "tie 0 0 1 up 0\nnote 0 0", "Note 0 0"):
            self.bad_offers(((line, 1),))
        # A place that has a note in the book, whether or not it is the same one.
        book = Book("size 6\nnote 3 1")
        for line in ("note 3 1", "note 3 2"):
            self.refused(BadOffers, ((line, 1),), cheapest, book, ((line, 1),), SURE)
        # A place that is told by ties alone.
        book = Book("size 6\ntie 2 3 1 up 1\nnote 2 1")
        self.same(cheapest(book, (("note 3 2", 1),), (("free", 9),)), ("choice", 0, (), ()))

    def test_what_is_no_tuple_of_wishes(self):
        wish = SURE[0]
        self.bad_wishes(*NO_INTEGERS, 0, 1, wish, list(SURE), {wish: 1}, (list(wish),), (wish, None), ((),), (wish[0],),
                        ((wish,),), (None,), ("told", 0), ("free", 1))

    def test_from_one_to_three_wishes(self):
        self.bad_wishes((), SURE * 4)
        self.same(cheapest(BASE, OFFERS, SURE * 3)[:2], ("choice", 3))

    def test_forms_of_wishes(self):
        for wish in (("told",), ("told", 0, 0), ("sure", 0), ("sure", 0, 0, 0), ("sure",), ("free",), ("free", 0, 0),
                     ("open", 0), ("Told", 0), ("", 0), (0, "told"), (None, 0), (True, 0), ([], 0), ("tolds", 0),
                     ("told", 6), ("told", -1), ("sure", 0, 6), ("sure", 6, 0), ("sure", -1, 0), ("free", -1)):
            self.bad_wishes((wish,), (SURE[0], wish), (wish, SURE[0]))
        for wrong in NO_INTEGERS:
            for wish in (("told", wrong), ("sure", wrong, 0), ("sure", 0, wrong), ("free", wrong), (wrong, 0),
                         (wrong,)):
                self.bad_wishes((wish,))

    def test_books_that_no_melody_keeps(self):
        for book in CLASHES:
            self.refused(Clash, book, cheapest, book, (("tie 0 0 1 up 0", 1),), (("free", 0),))


class Unchanged(Case):

    def test_what_is_handed_in(self):
        book, offers, wishes = book_of(6, [Tie(0, 2, 2, 1)]), tuple(OFFERS), tuple(SURE)
        before = book.text, book.ties, book.notes
        cheapest(book, offers, wishes)
        self.same((offers, wishes), (OFFERS, SURE))
        self.assertEqual((book.text, book.ties, book.notes), before)


if __name__ == "__main__":
    unittest.main()
