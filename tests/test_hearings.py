"""Point 13: a hearing, its deeds, what is taken back and done again, blocks that leave nothing behind."""

import unittest

from turnedtunes.books import Book
from turnedtunes.errors import BadNote, BadSize, BadTie, Clash, Full, NoPlace, NothingToRedo, NothingToUndo
from turnedtunes.errors import NoTie, NoTrial
from turnedtunes.hanging import free, hangs
from turnedtunes.hearings import Hearing
from turnedtunes.journals import journal
from turnedtunes.ties import Tie
from tests.helper import FAR, NO_INTEGERS, Case, book_of

RISE, MORE = Tie(0, 4, 4, 2), Tie(4, 8, 4, 2)
# Clashes with RISE and MORE.
WRONG = Tie(0, 8, 4, 5)


def shown(ear):
    """All that a hearing shows of itself, and of what can be taken back and done again."""
    other, back, forth = ear.copy(), [], []
    while other.done:
        other.undo()
        back.append((other.book.text, other.free))
    other = ear.copy()
    while True:
        try:
            other.redo()
        except NothingToRedo:
            break
        forth.append((other.book.text, other.free))
    return ear.size, ear.book.text, ear.free, ear.done, len(ear), journal(ear), back, forth


def heard_song():
    """A hearing of twelve places with two ties, a note, and a deed that can be done again."""
    ear = Hearing(12)
    ear.hear(RISE)
    ear.hear(MORE)
    ear.note(0, 5)
    ear.note(1, 6)
    ear.undo()
    return ear


class Examples(Case):

    def test_of_the_document(self):
        ear = Hearing(12)
        self.assertIsNone(ear.hear(Tie(0, 4, 4, 2)))
        self.assertIsNone(ear.hear(Tie(4, 8, 4, 2)))
        self.same([ear.free, ear[9], ear.note(0, 5), ear[8], ear.undo(), ear[8], ear.done],
                  [4, ("up", 1, 4), None, ("told", 9), None, ("up", 0, 4), 2])


class Sizes(Case):

    def test_at_first_nothing_is_known(self):
        for size in (1, 7, 10 ** 20, FAR):
            ear = Hearing(size)
            self.same((ear.size, ear.book.text, ear.free, ear.done, len(ear)), (size, f"size {size}", size, 0, 0))
            self.assertIs(type(ear.book), Book)
            self.same((ear[0], ear[size - 1]), (("up", 0, 0), ("up", size - 1, 0)))
        self.same(Hearing(size=3).size, 3)

    def test_other_sizes(self):
        for wrong in NO_INTEGERS + (0, -1, -FAR, FAR + 1, 10 ** 40):
            self.refused(BadSize, wrong, Hearing, wrong)


class Deeds(Case):

    def test_ties_and_notes_in_the_sequence_in_which_they_came(self):
        ear = Hearing(12)
        ear.note(9, 9)
        ear.hear(MORE)
        ear.note(1, 5)
        ear.hear(RISE)
        self.assertEqual(ear.book.text, "size 12\ntie 4 8 4 up 2\ntie 0 4 4 up 2\nnote 9 9\nnote 1 5")
        self.same((ear.free, ear.done, len(ear), ear[5], ear[6]), (3, 4, 2, ("told", 7), ("up", 2, 2)))

    def test_a_tie_is_written_as_its_own_text(self):
        ear = Hearing(3)
        ear.hear(Tie.of("0 1 1 up 2 back"))
        self.assertEqual(ear.book.text, "size 3\ntie 0 1 1 up 2")

    def test_forget_and_drop(self):
        ear = heard_song()
        ear.note(1, 6)
        self.assertIsNone(ear.forget(0))
        self.assertEqual(ear.book.text, "size 12\ntie 4 8 4 up 2\nnote 0 5\nnote 1 6")
        self.same((ear.free, ear.done, len(ear), ear[4]), (6, 5, 1, ("up", 4, 0)))
        self.assertIsNone(ear.drop(0))
        self.assertEqual(ear.book.text, "size 12\ntie 4 8 4 up 2\nnote 1 6")
        self.same((ear.free, ear.done, ear[0]), (7, 6, ("up", 0, 0)))
        # The tie behind moved up.
        ear.forget(0)
        ear.drop(1)
        self.same((ear.book.text, ear.free, ear.done), ("size 12", 12, 8))
        ear.note(1, 7)
        self.same(ear[1], ("told", 7))

    def test_by_operators(self):
        ear = same = Hearing(12)
        ear += RISE
        ear += MORE
        ear[0] = 5
        ear[2] = -1
        self.assertIs(ear, same)
        self.assertEqual(ear.book.text, "size 12\ntie 0 4 4 up 2\ntie 4 8 4 up 2\nnote 0 5\nnote 2 -1")
        ear -= 0
        self.assertIs(ear, same)
        self.assertEqual(ear.book.text, "size 12\ntie 4 8 4 up 2\nnote 0 5\nnote 2 -1")
        self.assertEqual(journal(ear), "size 12\nhear 0 4 4 up 2\nhear 4 8 4 up 2\nnote 0 5\nnote 2 -1\nforget 0")
        self.same((ear.done, ear.free), (5, 6))

    def test_by_names(self):
        ear = Hearing(12)
        ear.hear(tie=RISE)
        ear.note(note=5, place=0)
        ear.forget(number=0)
        ear.drop(place=0)
        self.assertEqual(journal(ear), "size 12\nhear 0 4 4 up 2\nnote 0 5\nforget 0\ndrop 0")

    def test_what_it_tells_of_its_places_and_ties(self):
        ear = heard_song()
        for place in range(12):
            self.same(ear[place], hangs(ear.book, place))
        for wrong in NO_INTEGERS + (-1, 12, FAR):
            self.refused(NoPlace, wrong, lambda: ear[wrong])
        for tie in (RISE, MORE, Tie.of("0 4 4 up 2")):
            self.assertIs(tie in ear, True)
        for other in NO_INTEGERS + (0, 5, 12, (0, 5), "tie 0 4 4 up 2", Tie(0, 4, 3, 2), ear, ear.book, [RISE]):
            self.assertIs(other in ear, False)

    def test_far_places(self):
        ear = Hearing(FAR)
        ear.hear(Tie(0, 3, FAR - 3, 1))
        self.same((ear.free, ear[FAR - 1]), (3, ("up", 0, FAR // 3)))
        ear[FAR - 1] = 0
        self.same((ear.free, ear[0]), (2, ("told", -(FAR // 3))))
        self.refused(Clash, book_of(FAR, ear.book.ties, [(FAR - 1, 0), (0, 0)]), ear.note, 0, 0)


class Refused(Case):
    """Each with its operator; and nothing changes."""

    def unchanged(self, ear, error, value, *calls):
        before = shown(ear)
        for call in calls:
            self.refused(error, value, *call)
            self.assertEqual(shown(ear), before)

    def adding(self, ear, value):
        def call():
            held = ear
            held += value
        return (call,)

    def taking(self, ear, value):
        def call():
            held = ear
            held -= value
        return (call,)

    def setting(self, ear, place, note):
        def call():
            ear[place] = note
        return (call,)

    def test_hear(self):
        ear = heard_song()
        others = [value for value in NO_INTEGERS if not isinstance(value, Tie)] + [0, 1, "0 4 4 up 2", ear, ear.book]
        for wrong in others + [Tie(0, 0, 13), Tie(0, 9, 4), Tie(9, 0, 4), Tie(12, 0, 1), Tie(0, 12, 1)]:
            self.unchanged(ear, BadTie, wrong, (ear.hear, wrong), self.adding(ear, wrong))
        clash = ear.book.with_tie(WRONG)
        self.unchanged(ear, Clash, clash, (ear.hear, WRONG), self.adding(ear, WRONG))
        for _ in range(10):
            ear.hear(Tie(0, 0, 1))
        self.unchanged(ear, Full, 12, (ear.hear, WRONG), self.adding(ear, WRONG), (ear.hear, RISE))
        self.unchanged(ear, BadTie, None, (ear.hear, None), self.adding(ear, None))
        ear.undo()
        clash = ear.book.with_tie(WRONG)
        self.unchanged(ear, Clash, clash, (ear.hear, WRONG), self.adding(ear, WRONG))

    def test_note(self):
        ear = heard_song()
        for wrong in NO_INTEGERS + (-1, 12, FAR, 0):
            for note in (5, None):
                self.unchanged(ear, NoPlace, wrong, (ear.note, wrong, note), self.setting(ear, wrong, note))
        for wrong in NO_INTEGERS:
            self.unchanged(ear, BadNote, wrong, (ear.note, 4, wrong), self.setting(ear, 4, wrong))
        # A place that is told without a note of its own.
        clash = ear.book.with_note(4, 8)
        self.unchanged(ear, Clash, clash, (ear.note, 4, 8), self.setting(ear, 4, 8))
        ear.note(4, 7)
        ear = Hearing(13)
        for place in range(12):
            ear.note(place, place)
        self.unchanged(ear, Full, 12, (ear.note, 12, 0), self.setting(ear, 12, 0))
        self.unchanged(ear, BadNote, "0", (ear.note, 12, "0"), self.setting(ear, 12, "0"))
        self.unchanged(ear, NoPlace, 3, (ear.note, 3, "0"), self.setting(ear, 3, "0"))
        ear = Hearing(14)
        ear.hear(Tie(0, 13, 1))
        for place in range(12):
            ear.note(place, place)
        # Full stands ahead of the clash.
        self.unchanged(ear, Full, 12, (ear.note, 13, 1), self.setting(ear, 13, 1))

    def test_forget(self):
        ear = heard_song()
        for wrong in NO_INTEGERS + (2, -1, -2, FAR):
            self.unchanged(ear, NoTie, wrong, (ear.forget, wrong), self.taking(ear, wrong))
        self.refused(NoTie, 0, Hearing(3).forget, 0)

    def test_drop(self):
        ear = heard_song()
        # Places 4 and 8 are told, but have no notes of their own.
        for wrong in NO_INTEGERS + (1, 4, 8, 12, -1, FAR):
            self.unchanged(ear, NoPlace, wrong, (ear.drop, wrong))
        self.refused(NoPlace, 0, Hearing(3).drop, 0)
        one = Hearing(3)
        one.note(1, 1)
        self.unchanged(one, NoPlace, True, (one.drop, True))

    def test_undo_and_redo(self):
        ear = Hearing(3)
        self.unchanged(ear, NothingToUndo, None, (ear.undo,))
        self.unchanged(ear, NothingToRedo, None, (ear.redo,))
        ear.note(0, 1)
        self.unchanged(ear, NothingToRedo, None, (ear.redo,))
        ear.undo()
        self.unchanged(ear, NothingToUndo, None, (ear.undo,))
        ear.redo()
        self.unchanged(ear, NothingToRedo, None, (ear.redo,))

    def test_keep(self):
        ear = heard_song()
        self.unchanged(ear, NoTrial, None, (ear.keep,))
        with ear.trial():
            ear.keep()
        self.unchanged(ear, NoTrial, None, (ear.keep,))
        ear.tried(lambda held: held.keep())
        self.unchanged(ear, NoTrial, None, (ear.keep,))


class BackAndForth(Case):

    def test_each_deed_is_taken_back_and_done_again(self):
        ear = Hearing(12)
        steps = [shown(ear)[:6]]
        for deed in (lambda: ear.hear(RISE), lambda: ear.note(0, 5), lambda: ear.hear(MORE), lambda: ear.forget(0),
                     lambda: ear.drop(0), lambda: ear.note(0, 6)):
            deed()
            steps.append(shown(ear)[:6])
        for _ in range(2):
            for step in steps[-2::-1]:
                self.assertIsNone(ear.undo())
                self.assertEqual(shown(ear)[:6], step)
            for step in steps[1:]:
                self.assertIsNone(ear.redo())
                self.assertEqual(shown(ear)[:6], step)

    def test_another_deed_comes_between(self):
        for deed in (lambda ear: ear.hear(Tie(0, 0, 1)), lambda ear: ear.note(2, 7), lambda ear: ear.forget(0),
                     lambda ear: ear.drop(0)):
            ear = heard_song()
            deed(ear)
            self.refused(NothingToRedo, None, ear.redo)
            ear.undo()
            self.assertEqual(ear.book.text, heard_song().book.text)
            ear.redo()
            self.refused(NothingToRedo, None, ear.redo)

    def test_a_deed_that_is_refused_does_not_come_between(self):
        ear = heard_song()
        self.assertRaises(Clash, ear.hear, WRONG)
        self.assertRaises(NoPlace, ear.note, 0, 1)
        ear.redo()
        self.same((ear[1], ear.done), (("told", 6), 4))

    def test_the_same_deed_comes_between(self):
        ear = heard_song()
        ear.note(1, 6)
        self.refused(NothingToRedo, None, ear.redo)

    def test_nothing_else_comes_between(self):
        ear = heard_song()
        self.same((ear.free, ear[9], len(ear), RISE in ear, journal(ear).count("\n")), (3, ("up", 1, 4), 2, True, 3))
        ear.copy().note(2, 2)
        with ear.trial():
            ear.note(2, 3)
        ear.redo()
        self.same(ear[1], ("told", 6))


class Blocks(Case):

    def test_held_is_the_hearing_itself(self):
        ear = Hearing(4)
        with ear.trial() as held:
            self.assertIs(held, ear)
        with ear.trial():
            pass
        self.assertEqual(shown(ear), shown(Hearing(4)))

    def test_all_is_as_it_was(self):
        ear = heard_song()
        before = shown(ear)
        for deeds in (lambda: ear.note(2, 2), lambda: ear.undo(), lambda: ear.redo(), lambda: None,
                      lambda: [ear.undo(), ear.undo(), ear.hear(WRONG), ear.undo()],
                      lambda: [ear.redo(), ear.forget(0), ear.drop(0), ear.drop(1)]):
            with ear.trial() as held:
                deeds()
                inside = shown(held)
            self.assertEqual(shown(ear), before)
            with ear.trial():
                deeds()
                ear.keep()
            self.assertEqual(shown(ear), inside)
            ear = heard_song()

    def test_it_begins_when_it_is_entered(self):
        ear = Hearing(4)
        block = ear.trial()
        ear.note(0, 1)
        self.refused(NoTrial, None, ear.keep)
        with block:
            ear.note(1, 1)
        self.assertEqual(journal(ear), "size 4\nnote 0 1")

    def test_keep_holds_for_what_comes_behind_it_too(self):
        ear = Hearing(4)
        with ear.trial():
            ear.note(0, 1)
            self.assertIsNone(ear.keep())
            ear.note(1, 2)
            ear.keep()
        self.assertEqual(journal(ear), "size 4\nnote 0 1\nnote 1 2")
        with ear.trial():
            ear.note(2, 3)
        self.assertEqual(journal(ear), "size 4\nnote 0 1\nnote 1 2")

    def test_undo_of_a_deed_from_ahead_of_the_block(self):
        ear = heard_song()
        before = shown(ear)
        with ear.trial():
            ear.undo()
            ear.undo()
            ear.redo()
            self.assertEqual(journal(ear), "size 12\nhear 0 4 4 up 2\nhear 4 8 4 up 2")
            for _ in range(2):
                ear.undo()
            self.refused(NothingToUndo, None, ear.undo)
        self.assertEqual(shown(ear), before)
        with ear.trial():
            ear.undo()
            ear.keep()
        self.same(ear.done, 2)
        ear.redo()
        ear.redo()
        self.same((ear[0], ear[1]), (("told", 5), ("told", 6)))

    def test_blocks_in_blocks(self):
        for inner, outer, wanted in ((False, False, ""), (True, False, ""), (False, True, "\nnote 0 1\nnote 2 3"),
                                     (True, True, "\nnote 0 1\nnote 1 2\nnote 2 3")):
            ear = Hearing(4)
            with ear.trial():
                ear.note(0, 1)
                with ear.trial():
                    ear.note(1, 2)
                    if inner:
                        ear.keep()
                self.assertEqual(ear.done, 1 + inner)
                ear.note(2, 3)
                if outer:
                    ear.keep()
            self.assertEqual(journal(ear), "size 4" + wanted)
            self.refused(NoTrial, None, ear.keep)

    def test_keep_belongs_to_the_innermost_block(self):
        ear = Hearing(4)
        with ear.trial():
            ear.note(0, 1)
            ear.keep()
            with ear.trial():
                ear.note(1, 2)
                with ear.trial():
                    ear.note(2, 3)
                    ear.keep()
                self.same(ear.done, 3)
            self.same(ear.done, 1)
        self.assertEqual(journal(ear), "size 4\nnote 0 1")

    def test_a_block_that_is_left_by_an_error(self):
        ear = heard_song()
        before = shown(ear)
        for deeds in ((lambda: ear.keep(),), (lambda: ear.note(2, 2), lambda: ear.keep()), (lambda: ear.undo(),)):
            with self.assertRaises(ZeroDivisionError):
                with ear.trial():
                    for deed in deeds:
                        deed()
                    1 // 0
            self.assertEqual(shown(ear), before)
            self.refused(NoTrial, None, ear.keep)
        with self.assertRaises(Clash):
            with ear.trial():
                ear.note(2, 2)
                ear.keep()
                ear.hear(WRONG)
        self.assertEqual(shown(ear), before)

    def test_an_error_that_does_not_leave_the_block(self):
        ear = Hearing(4)
        with ear.trial():
            ear.note(0, 1)
            self.assertRaises(NoPlace, ear.note, 0, 1)
            ear.keep()
        self.same(ear.done, 1)

    def test_an_error_that_leaves_the_inner_block_alone(self):
        ear = Hearing(4)
        with ear.trial():
            ear.note(0, 1)
            try:
                with ear.trial():
                    ear.note(1, 1)
                    ear.keep()
                    raise KeyError
            except KeyError:
                pass
            self.same(ear.done, 1)
            ear.keep()
        self.same(ear.done, 1)

    def test_a_block_that_is_left_by_a_return(self):
        def look(ear, keep):
            with ear.trial():
                ear.note(0, 1)
                if keep:
                    ear.keep()
                return ear.done
        ear = Hearing(4)
        self.same((look(ear, False), ear.done, look(ear, True), ear.done), (1, 0, 1, 1))


class Tried(Case):

    def test_what_look_returns(self):
        ear = heard_song()
        before = shown(ear)
        for value in NO_INTEGERS + (7,):
            self.assertIs(ear.tried(lambda held: value), value)
        self.assertIs(ear.tried(look=lambda held: held), ear)
        self.same(ear.tried(lambda held: (held.note(1, 7), held[9], held.done)), (None, ("told", 11), 4))
        self.assertEqual(shown(ear), before)

    def test_kept_for_True_and_for_no_other_value(self):
        for value in NO_INTEGERS + (0, 1, -1, FAR):
            ear = Hearing(4)
            ear.tried(lambda held: held.note(0, 1), keep=value)
            self.assertEqual(ear.done, 1 if value is True else 0, value)
        self.assertRaises(TypeError, Hearing(4).tried, lambda held: held, True)

    def test_kept_by_look(self):
        ear = Hearing(4)
        ear.tried(lambda held: (held.note(0, 1), held.keep()))
        self.same(ear.done, 1)
        ear.tried(lambda held: (held.note(1, 1), held.keep()), keep=False)
        self.same(ear.done, 2)
        ear.tried(lambda held: (held.undo(), held.keep()), keep=True)
        self.same(ear.done, 1)
        ear.redo()
        self.same(ear.done, 2)

    def test_left_by_an_error(self):
        def look(held):
            held.note(1, 9)
            held.keep()
            raise KeyError(held.done)
        for keep in (False, True):
            ear = heard_song()
            before = shown(ear)
            with self.assertRaises(KeyError) as caught:
                ear.tried(look, keep=keep)
            self.assertEqual(caught.exception.args, (4,))
            self.assertEqual(shown(ear), before)
            self.refused(NoTrial, None, ear.keep)

    def test_blocks_in_it(self):
        def look(held):
            held.note(0, 1)
            with held.trial():
                held.note(1, 1)
            held.tried(lambda more: more.note(2, 1), keep=True)
            return held.done
        ear = Hearing(4)
        self.same((ear.tried(look), ear.done), (2, 0))
        self.same((ear.tried(look, keep=True), ear.done), (2, 2))
        self.assertEqual(journal(ear), "size 4\nnote 0 1\nnote 2 1")


class Copies(Case):

    def test_alike_in_all_things_and_independent(self):
        ear = heard_song()
        before = shown(ear)
        other = ear.copy()
        self.assertIs(type(other), Hearing)
        self.assertIsNot(other, ear)
        self.assertTrue(other == ear)
        self.assertEqual(shown(other), before)
        other.undo()
        other.undo()
        other.hear(Tie(0, 8, 4))
        self.assertEqual(shown(ear), before)
        after = shown(other)
        ear.redo()
        ear.forget(1)
        self.assertEqual(shown(other), after)

    def test_outside_of_all_blocks(self):
        ear = heard_song()
        with ear.trial():
            ear.note(2, 2)
            other = ear.copy()
            inside = shown(ear)
            self.refused(NoTrial, None, other.keep)
            with other.trial():
                other.note(3, 3)
                other.keep()
            self.assertEqual(shown(ear), inside)
        self.same((other.done, ear.done), (5, 3))
        other.undo()
        self.assertEqual(shown(other), inside[:-1] + ([(other.book.text + "\nnote 3 3", 1)],))

    def test_equal_if_their_books_are(self):
        one, other = Hearing(12), Hearing(12)
        self.assertTrue(one == other)
        one.hear(RISE)
        self.assertFalse(one == other)
        self.assertTrue(one != other)
        other.note(0, 0)
        other.hear(RISE)
        other.drop(0)
        # What was done besides does not count.
        self.assertTrue(one == other)
        one.hear(MORE)
        other.hear(MORE)
        other.forget(0)
        other.hear(RISE)
        # The sequence of the ties does.
        self.assertFalse(one == other)
        self.assertFalse(Hearing(3) == Hearing(4))

    def test_nothing_else_is_equal(self):
        ear = Hearing(4)
        for other in NO_INTEGERS + (4, ear.book, journal(ear)):
            if not isinstance(other, Hearing):
                self.assertIs(ear == other, False)
                self.assertIs(other == ear, False)


class Numbers(Case):

    def test_free_is_that_of_the_book(self):
        ear = Hearing(FAR)
        self.same(ear.free, FAR)
        for tie in (Tie(0, 10 ** 20, FAR - 10 ** 20, 10 ** 5), Tie(0, 10 ** 15, 10 ** 25, 1),
                    Tie(3, 3, 10, 4, down=True)):
            ear.hear(tie)
            self.same(ear.free, free(ear.book))
        ear.note(0, 9)
        self.same(ear.free, free(ear.book))
        for _ in range(4):
            ear.undo()
            self.same(ear.free, free(ear.book))
        for _ in range(4):
            ear.redo()
            self.same(ear.free, free(ear.book))


if __name__ == "__main__":
    unittest.main()
