"""Point 14: journals, and that a journal is read back."""

import unittest

from turnedtunes.errors import BadJournal
from turnedtunes.hearings import Hearing
from turnedtunes.journals import journal, read_journal
from turnedtunes.ties import Tie
from tests.helper import FAR, NO_STRINGS, Case, text
from tests.test_hearings import RISE, heard_song, shown

SONG = text("size 12", "hear 0 4 4 up 2", "hear 4 8 4 up 2", "note 0 5")


class Journals(Case):

    def test_the_size_and_the_deeds_that_stand(self):
        self.assertEqual(journal(Hearing(FAR)), f"size {FAR}")
        ear = heard_song()
        # What was taken back does not stand.
        self.assertEqual(journal(ear), SONG)
        ear.redo()
        self.assertEqual(journal(hearing=ear), text(SONG, "note 1 6"))
        ear.forget(1)
        ear.drop(0)
        ear.note(3, -FAR)
        self.assertEqual(journal(ear), text(SONG, "note 1 6", "forget 1", "drop 0", f"note 3 {-FAR}"))

    def test_deeds_of_blocks(self):
        ear = heard_song()
        with ear.trial():
            ear.note(2, 2)
            self.assertEqual(journal(ear), text(SONG, "note 2 2"))
        self.assertEqual(journal(ear), SONG)

    def test_a_tie_by_its_own_text(self):
        ear = Hearing(9)
        ear.hear(Tie.of("0 4 1 up 2 back"))
        ear.hear(Tie(0, 4, 4, -3, down=True, backward=True))
        self.assertEqual(journal(ear), text("size 9", "hear 0 4 1 up 2", "hear 0 4 4 down -3 back"))

    def test_it_changes_nothing(self):
        ear = heard_song()
        before = shown(ear)
        self.assertEqual(journal(ear), journal(ear))
        self.assertEqual(shown(ear), before)


class ReadBack(Case):

    def check(self, ear):
        other = read_journal(journal(ear))
        self.assertIs(type(other), Hearing)
        self.assertEqual(journal(other), journal(ear))
        self.assertTrue(other == ear and other.book == ear.book)
        self.same((other.size, other.free, other.done, other.book.text),
                  (ear.size, ear.free, ear.done, ear.book.text))
        # All that stands can be taken back, and nothing can be done again.
        self.assertEqual(shown(other)[:-1], shown(ear)[:-1])
        self.assertEqual(shown(other)[-1], [])

    def test_hearings(self):
        ear = Hearing(12)
        self.check(ear)
        ear = heard_song()
        self.check(ear)
        for deed in (lambda: ear.redo(), lambda: ear.forget(0), lambda: ear.drop(0), lambda: ear.hear(RISE),
                     lambda: ear.note(2, -9), lambda: ear.undo(), lambda: ear.drop(1)):
            deed()
            self.check(ear)
        far = Hearing(FAR)
        far.hear(Tie(0, 3, FAR - 3, 1))
        far.note(FAR - 1, -10 ** 39)
        self.check(far)

    def test_notes_of_any_size(self):
        tie = Tie(0, 0, 1, 1)
        for _ in range(200):
            tie = tie * FAR
        ear = Hearing(2)
        ear.note(0, tie.amount)
        self.check(ear)

    def test_more_deeds_than_a_book_holds(self):
        ear = Hearing(4)
        for number in range(40):
            ear.hear(Tie(0, 0, 1))
            ear.note(1, number)
            ear.forget(0)
            ear.drop(1)
        self.assertEqual((ear.done, ear.book.text), (160, "size 4"))
        self.check(ear)

    def test_lines(self):
        ear = read_journal(text=text("size 9", "note 8 -1", "hear 0 4 1 up 2 back", "hear 0 0 1 up 0", "forget 1",
                                     "drop 8", "note 8 0"))
        self.assertEqual(ear.book.text, text("size 9", "tie 0 4 1 up 2", "note 8 0"))
        self.same((ear.done, ear.free), (6, 7))
        self.assertEqual(journal(ear).split("\n")[2], "hear 0 4 1 up 2")
        self.assertEqual(read_journal("size 9").book.text, "size 9")


class Refused(Case):

    def test_what_is_no_string(self):
        for wrong in NO_STRINGS + (["size 4"], ("size 4",), heard_song()):
            self.refused(BadJournal, 0, read_journal, wrong)

    def test_the_first_line(self):
        for line in ("", "size", "size ", "size 0", "size -1", f"size {FAR + 1}", "size  4", " size 4", "size 4 ",
                     "size 4 4", "size 04", "size +4", "size four", "Size 4", "4", "size\t4", "size 4\r",
                     "hear 0 0 1 up 0", "note 0 0", "size True", "size \u0664"):
            self.refused(BadJournal, 1, read_journal, line)
            self.refused(BadJournal, 1, read_journal, text(line, "size 4"))
            self.refused(BadJournal, 1, read_journal, text(line, "nonsense"))

    def test_lines_that_have_no_form(self):
        for line in ("", " ", "hear", "hear ", "note", "note 0", "note 0 0 0", "forget", "forget ", "forget 0 0",
                     "drop", "drop 0 0", "nonsense", "size 4", "tie 0 0 1 up 0", "Hear 0 0 1 up 0",
                     " hear 0 0 1 up 0", "hear  0 0 1 up 0", "hear 0 0 1 up 0 ", "hear 0 0 1 up", "hear 0 0 0 up 0",
                     "hear 0 0 1 up 0 up", "hear 0 0 1 up 00", "hear -1 0 1 up 0", "note  0 0", "note 0 0 ",
                     "note 00 0", "note 0 -0", "note 0 +1", "note 0 x", "note x 0", "note 0 None", "forget 00",
                     "forget +0", "forget x", "drop 03", "drop x", "undo", "redo", "free", "compass", "where 0",
                     "between 0 1", "keep", "hear 0 0 1 up 0\r", "note 0 1\r", "forget\t0", "drop \u0663"):
            self.refused(BadJournal, 4, read_journal, text("size 4", "hear 0 1 2 up 0", "note 3 0", line))
            self.refused(BadJournal, 4, read_journal, text("size 4", "hear 0 1 2 up 0", "note 3 0", line, "drop 3"))
            self.refused(BadJournal, 2, read_journal, text("size 4", line, "size 4"))

    def test_an_empty_last_line(self):
        self.refused(BadJournal, 5, read_journal, SONG + "\n")
        self.refused(BadJournal, 2, read_journal, "size 4\n")
        self.refused(BadJournal, 1, read_journal, "\n" + SONG)

    def test_deeds_that_are_refused(self):
        for line in ("hear 0 9 4 up 0", "hear 0 0 13 up 0", "hear 0 8 4 up 5", "note 0 5", "note 0 6", "note 12 0",
                     "note -1 0", "note 4 8", "forget 2", "forget -1", "drop 1", "drop 4", "drop 12", "drop -1",
                     f"hear {FAR - 1} 0 1 up 0", f"forget {10 ** 39}"):
            self.refused(BadJournal, 5, read_journal, text(SONG, line))
            self.refused(BadJournal, 5, read_journal, text(SONG, line, "nonsense"))
            self.refused(BadJournal, 6, read_journal, text(SONG, "note 3 1", line))
        # The note 8 at place 4 can be once the first tie is gone.
        self.same(read_journal(text(SONG, "forget 0", "note 4 8"))[8], ("told", 10))

    def test_no_more_than_twelve_ties_and_notes(self):
        ties = ["hear 0 0 1 up 0"] * 12
        notes = [f"note {place} 0" for place in range(12)]
        self.same(read_journal(text("size 13", *notes, *ties)).done, 24)
        self.refused(BadJournal, 26, read_journal, text("size 13", *notes, *ties, "hear 0 0 1 up 0"))
        self.refused(BadJournal, 26, read_journal, text("size 13", *ties, *notes, "note 12 0"))
        self.same(read_journal(text("size 13", *ties, "forget 5", ties[0], *notes, "drop 3", "note 12 0")).done, 28)


if __name__ == "__main__":
    unittest.main()
