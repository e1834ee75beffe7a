"""Point 3 (f), and (a) to (e), on hearings that are drawn: held against lists of all that was done."""

import unittest
from random import Random

from turnedtunes.choosing import cheapest
from turnedtunes.compass import compass, reach, room
from turnedtunes.counting import many, told
from turnedtunes.errors import BadNote, BadTie, Clash, Full, NoPlace, NothingToRedo, NothingToUndo, NoTie, NoTrial
from turnedtunes.hanging import free, heard
from turnedtunes.hearings import Hearing
from turnedtunes.intervals import follows, interval
from turnedtunes.journals import journal, read_journal
from turnedtunes.lines import fits, shows_fits, shows_why, why
from turnedtunes.melodies import general, keeps
from turnedtunes.ties import Tie
from tests.helper import keeps as list_keeps
from tests.helper import Case, between, book_of, drawn_tie, drawn_tune, hung, melody_by


class Lists:
    """All that a hearing should be: its states, one behind the other, and those that were taken back."""

    def __init__(self, size):
        self.size = size
        self.states = [(None, (), ())]
        self.undone = []

    def snapshot(self):
        return list(self.states), list(self.undone)

    def book(self):
        return book_of(self.size, *self.states[-1][1:])

    def deed(self, line, ties, notes):
        """The error by which a deed is refused; None if it is done."""
        if len(ties) > 12 or len(notes) > 12:
            return Full
        if hung(book_of(self.size, ties, notes)) is None:
            return Clash
        self.states.append((line, tuple(ties), tuple(notes)))
        self.undone = []
        return None

    def do(self, word, *given):
        _, ties, notes = self.states[-1]
        if word == "hear":
            tie = given[0]
            if max(tie.first, tie.second) + tie.length > self.size:
                return BadTie
            return self.deed(f"hear {tie.text}", [*ties, tie], notes)
        if word == "note":
            place, note = given
            if not 0 <= place < self.size or place in dict(notes):
                return NoPlace
            if note is None:
                return BadNote
            return self.deed(f"note {place} {note}", ties, [*notes, (place, note)])
        if word == "forget":
            number = given[0]
            if not 0 <= number < len(ties):
                return NoTie
            return self.deed(f"forget {number}", ties[:number] + ties[number + 1:], notes)
        if word == "drop":
            if given[0] not in dict(notes):
                return NoPlace
            return self.deed(f"drop {given[0]}", ties, [note for note in notes if note[0] != given[0]])
        return self.back() if word == "undo" else self.forth()

    def back(self):
        if len(self.states) == 1:
            return NothingToUndo
        self.undone.append(self.states.pop())
        return None

    def forth(self):
        if not self.undone:
            return NothingToRedo
        self.states.append(self.undone.pop())
        return None


def drawn_deed(draw, size, tune):
    word = draw.choice(("hear", "hear", "hear", "note", "note", "forget", "drop", "undo", "undo", "redo"))
    if word == "hear":
        if draw.random() < .05:
            return word, Tie(0, draw.randint(0, 2), size)
        return word, drawn_tie(draw, size, draw.choice((tune, tune, None)))
    if word == "note":
        place = draw.randint(-1, size)
        return word, place, draw.choice((tune[place % size],) * 6 + (tune[place % size] + 1, None))
    if word == "forget":
        return word, draw.randint(-1, 4)
    return (word, draw.randint(-1, size)) if word == "drop" else (word,)


def done(ear, deed):
    """Does a deed by its name or by its operator; the kind of error that it raises, or None."""
    word, *given = deed
    try:
        if word == "hear" and given[0].amount % 2:
            ear += given[0]
        elif word == "forget" and given[0] % 2:
            ear -= given[0]
        elif word == "note" and given[0] % 2:
            ear[given[0]] = given[1]
        else:
            assert getattr(ear, word)(*given) is None
    except (BadTie, BadNote, Clash, Full, NoPlace, NoTie, NothingToUndo, NothingToRedo) as error:
        return type(error)
    return None


class Walks(Case):
    """(f)"""

    def check(self, ear, lists):
        book = lists.book()
        found = hung(book)
        self.assertEqual(ear.book.text, book.text)
        self.same((ear.size, ear.done, len(ear)), (lists.size, len(lists.states) - 1, len(book)))
        self.same(ear.free, sum(what == ("up", place, 0) for place, what in enumerate(found)))
        self.same([ear[place] for place in range(ear.size)], found)
        self.assertEqual(journal(ear), "\n".join([f"size {ear.size}", *[line for line, _, _ in lists.states[1:]]]))
        other = read_journal(journal(ear))
        self.assertTrue(other == ear and journal(other) == journal(ear) and other.done == ear.done)

    def check_back_and_forth(self, ear, lists):
        """All that can be taken back, and done again, on copies of both."""
        for word in ("undo", "redo"):
            other, copied = ear.copy(), Lists(lists.size)
            copied.states, copied.undone = lists.snapshot()
            wanted = None
            while wanted is None:
                wanted = copied.do(word)
                self.assertEqual(done(other, (word,)), wanted)
                self.assertEqual((other.book.text, other.done), (copied.book().text, len(copied.states) - 1))

    def walk(self, draw, ear, lists, tune, depth):
        for _ in range(draw.randint(1, 9)):
            chance = draw.random()
            if chance < .12 and depth < 3:
                self.block(draw, ear, lists, tune, depth)
            elif chance < .16:
                other, copied = ear.copy(), Lists(lists.size)
                copied.states, copied.undone = lists.snapshot()
                self.assertRaises(NoTrial, other.keep)
                self.walk(draw, other, copied, tune, 3)
            else:
                deed = drawn_deed(draw, lists.size, tune)
                self.assertEqual(done(ear, deed), lists.do(*deed), deed)
            self.check(ear, lists)
        self.check_back_and_forth(ear, lists)

    def block(self, draw, ear, lists, tune, depth):
        """A block, or a call of tried: kept, not kept, or left by an error."""
        before = lists.snapshot()
        kept, keep, error = draw.random() < .5, draw.random() < .3, draw.random() < .2

        def look(held):
            self.assertIs(held, ear)
            early = draw.random() < .5
            if kept and early:
                held.keep()
            self.walk(draw, held, lists, tune, depth + 1)
            if kept and not early:
                held.keep()
            if error:
                raise KeyError(depth)
            return depth

        stays = kept and not error
        try:
            if draw.random() < .5:
                with ear.trial() as held:
                    look(held)
            else:
                stays = (kept or keep) and not error
                self.assertEqual(ear.tried(look, keep=True if keep else draw.choice((0, 1, "True", False))), depth)
        except KeyError:
            self.assertTrue(error)
        if not stays:
            lists.states, lists.undone = before

    def test_drawn_walks(self):
        lengths = []
        for seed in range(150):
            draw = Random(300 + seed)
            size = draw.randint(1, 9)
            ear, lists = Hearing(size), Lists(size)
            tune = drawn_tune(draw, size)
            for _ in range(3):
                self.walk(draw, ear, lists, tune, 0)
                self.assertRaises(NoTrial, ear.keep)
            lengths.append(ear.done)
        self.assertGreater(max(lengths), 9)


def drawn_hearings(seed, number):
    """(hearing, what hangs tells of its places, a draw), of hearings to which this and that was done."""
    for one in range(number):
        draw = Random(1000 * seed + one)
        size = draw.randint(2, 9)
        tune, ear = drawn_tune(draw, size), Hearing(size)
        for _ in range(draw.randint(1, 8)):
            done(ear, drawn_deed(draw, size, tune))
        yield ear, hung(ear.book), draw


class Guarantees(Case):

    def test_all_melodies(self):
        """(a)"""
        for ear, found, draw in drawn_hearings(1, 150):
            for _ in range(3):
                melody = melody_by(found, [draw.randint(-9, 9) for _ in range(ear.size)])
                self.assertTrue(list_keeps(ear.book, melody))
                low, high = min(melody), max(melody)
                self.assertGreaterEqual(high - low, compass(ear.book))
                for place in range(ear.size):
                    word, *more = ear[place]
                    if word == "told":
                        self.assertEqual(melody[place], more[0])
                    else:
                        self.assertEqual(melody[place], more[1] + melody[more[0]] * (1 if word == "up" else -1))
                    least, greatest = reach(ear.book, place, low, high)
                    self.assertTrue(least <= melody[place] <= greatest)
            melody = general(ear.book)
            self.assertTrue(keeps(ear.book, melody) and melody.new == ear.free)
            for one in range(ear.size):
                for other in range(ear.size):
                    self.same(interval(ear.book, one, other), between(found[one], found[other]))

    def test_lines(self):
        """(b)"""
        for ear, _, _ in drawn_hearings(2, 100):
            self.assertIs(shows_fits(ear.book, fits(ear.book)), True)
            for place in range(ear.size):
                self.assertIs(shows_why(ear.book, place, why(ear.book, place)), True)

    def test_more_ties(self):
        """(c)"""
        more = 0
        for ear, found, draw in drawn_hearings(3, 200):
            tune = melody_by(found, [draw.randint(-3, 3) for _ in range(ear.size)])
            before, tie = ear.copy(), drawn_tie(draw, ear.size, draw.choice((tune, tune, None)))
            known = follows(ear.book, tie)
            try:
                ear.hear(tie)
            except Clash as error:
                self.assertEqual(fits(error.value)[0], "clash")
                self.assertEqual((ear.book.text, ear.done), (before.book.text, before.done))
                continue
            more += 1
            self.assertEqual(ear.free == before.free, known == ("sure",))
            self.assertLessEqual(ear.free, before.free)
            self.assertGreaterEqual(compass(ear.book), compass(before.book))
            for place in range(ear.size):
                if before[place][0] == "told":
                    self.assertEqual(ear[place], before[place])
            for known in (tie, *before.book.ties):
                self.assertEqual(follows(ear.book, known), ("sure",))
        self.assertGreater(more, 120)

    def test_turned_about(self):
        """(d)"""
        for ear, found, draw in drawn_hearings(4, 150):
            back, other = ~ear.book, -ear.book
            self.assertEqual((free(back), free(other)), (ear.free, ear.free))
            self.assertEqual((compass(back), compass(other)), (compass(ear.book),) * 2)
            self.assertEqual((told(back, ear.size), told(other, ear.size)), (told(ear.book, ear.size),) * 2)
            melody = melody_by(found, [draw.randint(-3, 3) for _ in range(ear.size)])
            low, high = min(melody), max(melody)
            wanted = room(ear.book, low, high)
            self.same((room(back, low, high), room(other, -high, -low)), (wanted, wanted))
            for place in range(ear.size):
                many_here = None if ear[place][0] == "told" else many(ear.book, place, ear.size)
                if many_here is not None:
                    self.assertEqual(sum(many(back, ear.size - 1 - place, ear.size)), sum(many_here))
                    self.assertEqual(many(other, place, ear.size), many_here)

    def test_side_by_side(self):
        """(e)"""
        hearings = [ear for ear, _, _ in drawn_hearings(5, 100)]
        for one, other in zip(hearings, hearings[1:]):
            both = one.book + other.book
            self.assertEqual(free(both), one.free + other.free)
            moved = [(what[0], what[1] + one.size, what[2]) if what[0] != "told" else what
                     for what in heard(other.book, 0, other.size)]
            self.assertEqual(heard(both, 0, both.size), (*heard(one.book, 0, one.size), *moved))

    def test_the_cheapest_choice_is_heard(self):
        chosen = 0
        for ear, found, draw in drawn_hearings(6, 150):
            tune = melody_by(found, [draw.randint(-3, 3) for _ in range(ear.size)])
            lines = {f"tie {drawn_tie(draw, ear.size, tune).text}" for _ in range(2)}
            lines |= {f"note {place} {tune[place]}" for place in range(2) if place not in dict(ear.book.notes)}
            offers = tuple((line, draw.randint(1, 3)) for line in sorted(lines))
            wish = draw.choice((("told", draw.randrange(ear.size)), ("free", max(0, ear.free - 1))))
            result = cheapest(ear.book, offers, (wish,))
            # All lines are true of one tune: so all choices count.
            if result[0] == "none":
                self.assertEqual(len(result[1]), 2 ** len(offers))
                continue
            chosen += 1
            self.assertEqual(result[1], sum(price for _, price in result[2]))
            held = read_journal("\n".join([journal(ear), *[line.replace("tie", "hear") for line, _ in result[2]]]))
            self.assertTrue(held[wish[1]][0] == "told" if wish[0] == "told" else held.free <= wish[1])
        self.assertGreater(chosen, 60)


if __name__ == "__main__":
    unittest.main()
