"""Point 14: a desk, and each line that is said to it."""

import unittest

from turnedtunes.compass import compass
from turnedtunes.desk import Desk
from turnedtunes.errors import BadJournal, BadLine, BadTie, Clash, Full, NoPlace, NothingToRedo, NothingToUndo, NoTie
from turnedtunes.hanging import hangs
from turnedtunes.hearings import Hearing
from turnedtunes.intervals import interval
from turnedtunes.journals import journal, read_journal
from turnedtunes.ties import Tie
from tests.helper import FAR, NO_STRINGS, Case, kept_books, text
from tests.test_hearings import WRONG, shown
from tests.test_journals import SONG


class Examples(Case):

    def test_of_the_document(self):
        ear = Hearing(12)
        ear.hear(Tie(0, 4, 4, 2))
        ear.hear(Tie(4, 8, 4, 2))
        desk = Desk(journal(ear))
        lines = ("where 9", "note 1 5", "between 0 8", "where 9", "compass", "undo", "free")
        self.same([desk.say(line) for line in lines], ["up 1 4", "ok", "up 4", "told 9", "4", "ok", "4"])


class Journals(Case):

    def test_a_hearing_by_its_journal(self):
        desk = Desk(text=SONG)
        self.assertIs(type(desk.hearing), Hearing)
        self.assertEqual(shown(desk.hearing), shown(read_journal(SONG)))
        self.assertIs(desk.hearing, desk.hearing)

    def test_bad_journals(self):
        for wrong in NO_STRINGS:
            self.refused(BadJournal, 0, Desk, wrong)
        for wrong, number in (("", 1), ("size 0", 1), (SONG + "\n", 5), (text(SONG, "hear 0 8 4 up 5"), 5),
                              (text("size 4", "drop 0", "nonsense"), 2), (text(SONG, "undo"), 5)):
            self.refused(BadJournal, number, Desk, wrong)


class Lines(Case):

    def test_deeds(self):
        desk = Desk("size 12")
        for line in SONG.split("\n")[1:]:
            self.same(desk.say(line), "ok")
        self.assertEqual(journal(desk.hearing), SONG)
        for line in ("hear 3 3 1 up 0 back", "note 3 -7", "drop 0", "forget 0"):
            self.same(desk.say(line=line), "ok")
        self.assertEqual(journal(desk.hearing),
                         text(SONG, "hear 3 3 1 up 0", "note 3 -7", "drop 0", "forget 0"))

    def test_a_tie_of_one_place_with_back_behind_it(self):
        desk = Desk("size 4")
        self.same(desk.say("hear 0 1 1 down 2 back"), "ok")
        self.assertEqual(journal(desk.hearing), "size 4\nhear 0 1 1 down 2")
        self.same([desk.say("where 1"), desk.say("between 0 1"), desk.say("between 1 2")],
                  ["down 0 2", "down 2", "open"])

    def test_undo_and_redo(self):
        desk = Desk(SONG)
        self.same([desk.say(line) for line in ("undo", "where 0", "undo", "free", "redo", "redo", "where 0", "free")],
                  ["ok", "up 0 0", "ok", "8", "ok", "ok", "told 5", "3"])
        self.refused(NothingToRedo, None, desk.say, "redo")
        for _ in range(3):
            self.same(desk.say("undo"), "ok")
        self.refused(NothingToUndo, None, desk.say, "undo")
        self.assertEqual(journal(desk.hearing), "size 12")

    def test_where_and_between(self):
        desk = Desk(text("size 6", "hear 0 2 1 down -3", "hear 0 4 1 up 7", "note 5 -1"))
        self.same([desk.say(f"where {place}") for place in range(6)],
                  ["up 0 0", "up 1 0", "down 0 -3", "up 3 0", "up 0 7", "told -1"])
        self.same([desk.say(line) for line in ("between 0 2", "between 2 0", "between 0 4", "between 4 0",
                                               "between 2 4", "between 0 5", "between 5 5", "between 1 1")],
                  ["down -3", "down -3", "up 7", "up -7", "down 4", "open", "up 0", "up 0"])

    def test_free_and_compass(self):
        desk = Desk(text(f"size {FAR}", f"hear 0 3 {FAR - 3} up 1"))
        self.same([desk.say(line) for line in ("free", "compass", "where 0", f"where {FAR - 1}", "between 0 9")],
                  ["3", str(FAR // 3), "up 0 0", f"up 0 {FAR // 3}", "up 3"])
        self.same([Desk("size 5").say(line) for line in ("free", "compass")], ["5", "0"])

    def test_it_speaks_of_its_hearing(self):
        desk = Desk(SONG)
        desk.hearing.undo()
        self.same(desk.say("free"), "4")
        with desk.hearing.trial():
            self.same((desk.say("note 1 1"), desk.say("free")), ("ok", "3"))
        self.same((desk.say("free"), desk.say("redo"), desk.say("where 8")), ("4", "ok", "told 9"))

    def test_numbers_of_any_size(self):
        tie = Tie(0, 0, 1, 1)
        for _ in range(200):
            tie = tie * FAR
        desk = Desk("size 3")
        desk.hearing.hear(Tie(0, 1, 1, tie.amount))
        wanted = "1" + "0" * 6000
        self.same([desk.say(line) for line in ("where 1", "between 1 0", "compass")],
                  [f"up 0 {wanted}", f"up -{wanted}", wanted])

    def test_drawn_books(self):
        for book, _ in kept_books(seed=141, many=100, greatest=8):
            desk = Desk(text(f"size {book.size}", *[f"hear {tie.text}" for tie in book.ties],
                             *[f"note {place} {note}" for place, note in book.notes]))
            self.same((desk.say("free"), desk.say("compass")), (str(desk.hearing.free), str(compass(book))))
            for place in range(book.size):
                self.same(desk.say(f"where {place}"), " ".join(map(str, hangs(book, place))))
                for other in range(book.size):
                    self.same(desk.say(f"between {place} {other}"), " ".join(map(str, interval(book, place, other))))


class Refused(Case):

    def test_what_is_no_line(self):
        desk = Desk(text(SONG, "note 1 1", "drop 1"))
        desk.hearing.undo()
        before = shown(desk.hearing)
        for wrong in NO_STRINGS + (
                "", " ", "nonsense", "size 12", "journal", "keep", "trial", "copy", "done", "ok",
                "undo ", " undo", "Undo", "undo 1", "redo ", "redo\n", "redo 0", "free ", "free 0", "free\n",
                "compass ", "compass 0", "where", "where ", "where 0 0", "where  0", "where 0 ", "where 00",
                "where +0", "where -0", "where x", "where 0\n", "where True", "between", "between 0", "between 0 1 2",
                "between 0  1", "between 0 01", "between x 0", "between 0 x", "hear", "hear ", "hear 0 0 1 up",
                "hear 0 0 1 up 0 0", "hear 0 0 0 up 0", "hear -1 0 1 up 0", "hear  0 0 1 up 0", "tie 0 0 1 up 0",
                "note", "note 0", "note 0 0 0", "note 0 -0", "note x 0", "forget", "forget x", "forget 0 0",
                "drop", "drop x", "drop 0 0", "drop 00", "note 2 2\nnote 3 3", "where \u0663",
                f"hear 0 0 {FAR + 1} up 0"):
            self.refused(BadLine, wrong, desk.say, wrong)
        self.assertEqual(shown(desk.hearing), before)

    def test_what_the_hearing_raises(self):
        desk = Desk(SONG)
        before = shown(desk.hearing)
        for line, error, value in (
                ("hear 0 9 4 up 0", BadTie, Tie(0, 9, 4)), ("hear 12 0 1 up 0 back", BadTie, Tie(12, 0, 1)),
                ("hear 0 8 4 up 5", Clash, desk.hearing.book.with_tie(WRONG)),
                ("note 0 5", NoPlace, 0), ("note 12 5", NoPlace, 12), ("note -1 5", NoPlace, -1),
                ("note 4 8", Clash, desk.hearing.book.with_note(4, 8)),
                ("forget 2", NoTie, 2), ("forget -1", NoTie, -1), (f"forget {FAR}", NoTie, FAR),
                ("drop 1", NoPlace, 1), ("drop 12", NoPlace, 12), ("drop -1", NoPlace, -1),
                ("where 12", NoPlace, 12), ("where -1", NoPlace, -1), (f"where {FAR}", NoPlace, FAR),
                ("between 12 -1", NoPlace, 12), ("between 0 -1", NoPlace, -1), ("between 0 12", NoPlace, 12),
                ("redo", NothingToRedo, None)):
            self.refused(error, value, desk.say, line)
        self.assertEqual(shown(desk.hearing), before)
        for _ in range(10):
            desk.say("hear 0 0 1 up 0")
        self.refused(Full, 12, desk.say, "hear 0 8 4 up 5")


if __name__ == "__main__":
    unittest.main()
