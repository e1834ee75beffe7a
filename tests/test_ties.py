"""Point 4: what a tie is, its text, its parts. (What is joined: test_joined.py.)"""

import unittest

from turnedtunes.errors import BadAmount, BadLength, BadNote, BadPart, BadPlace, BadText, BadWay, NoPlace
from turnedtunes.ties import Tie
from tests.helper import FAR, NO_BOOLS, NO_INTEGERS, NO_STRINGS, Case, pairs, six, small_ties


class Making(Case):

    def test_the_six_values(self):
        self.same(six(Tie(1, 2, 3, 4, down=True, backward=True)), (1, 2, 3, 4, True, True))
        self.same(six(Tie(1, 2, 3)), (1, 2, 3, 0, False, False))
        self.same(six(Tie(0, 0, 1, -4)), (0, 0, 1, -4, False, False))
        self.same(six(Tie(5, 2, 3, down=True)), (5, 2, 3, 0, True, False))
        self.same(six(Tie(5, 2, 3, backward=True)), (5, 2, 3, 0, False, True))

    def test_arguments_by_their_names(self):
        named = Tie(backward=True, down=True, amount=4, length=3, second=2, first=1)
        self.same(six(named), (1, 2, 3, 4, True, True))

    def test_the_ways_only_by_their_names(self):
        self.assertRaises(TypeError, Tie, 1, 2, 3, 4, True)
        self.assertRaises(TypeError, Tie, 1, 2, 3, 4, True, True)
        self.assertRaises(TypeError, Tie, 1, 2)

    def test_one_place_is_never_read_backward(self):
        self.assertIs(Tie(4, 7, 1, backward=True).backward, False)
        self.assertIs(Tie(4, 7, 2, backward=True).backward, True)
        self.assertTrue(Tie(4, 7, 1, backward=True) == Tie(4, 7, 1))

    def test_places(self):
        for wrong in NO_INTEGERS + (-1, -FAR):
            self.refused(BadPlace, wrong, Tie, wrong, 0, 1)
            self.refused(BadPlace, wrong, Tie, 0, wrong, 1)

    def test_lengths(self):
        for wrong in NO_INTEGERS + (0, -1, -FAR):
            self.refused(BadLength, wrong, Tie, 0, 0, wrong)

    def test_parts_end_at_the_greatest_number_at_most(self):
        self.assertEqual(Tie(FAR - 1, 0, 1).first, FAR - 1)
        self.assertEqual(Tie(0, FAR - 1, 1).second, FAR - 1)
        self.assertEqual(Tie(0, 0, FAR).length, FAR)
        self.assertEqual(Tie(FAR - 5, FAR - 5, 5, backward=True).length, 5)
        for first, second, length in (
                (FAR, 0, 1), (0, FAR, 1), (FAR - 5, 0, 6), (0, FAR - 5, 6), (0, 0, FAR + 1), (1, 0, FAR),
                (0, 1, FAR), (FAR * FAR, 0, 2), (0, FAR * FAR, 3)):
            self.refused(BadLength, length, Tie, first, second, length)

    def test_amounts(self):
        for wrong in NO_INTEGERS:
            self.refused(BadAmount, wrong, Tie, 0, 0, 1, wrong)
        for right in (0, -1, FAR, -FAR):
            self.assertEqual(Tie(0, 0, 1, right).amount, right)

    def test_ways(self):
        for wrong in NO_BOOLS:
            self.refused(BadWay, wrong, Tie, 0, 0, 2, down=wrong)
            self.refused(BadWay, wrong, Tie, 0, 0, 2, backward=wrong)
            self.refused(BadWay, wrong, Tie, 0, 0, 1, backward=wrong)

    def test_of_several_wrong_things_the_first_is_refused(self):
        wrong = {"first": "f", "second": "s", "length": "l", "amount": "a", "down": "d", "backward": "b"}
        right = {"first": 0, "second": 1, "length": 2, "amount": 3, "down": True, "backward": True}
        errors = {"first": BadPlace, "second": BadPlace, "length": BadLength, "amount": BadAmount,
                  "down": BadWay, "backward": BadWay}
        names = list(wrong)
        for at, name in enumerate(names):
            for other in names[at + 1:]:
                self.refused(errors[name], wrong[name], Tie, **{**right, name: wrong[name], other: wrong[other]})
            rest = {later: wrong[later] for later in names[at:]}
            self.refused(errors[name], wrong[name], Tie, **{**right, **rest})
        self.refused(BadPlace, -1, Tie, FAR, -1, 1)
        self.refused(BadLength, 1, Tie, FAR, 0, 1, "a", down="d")
        self.refused(BadLength, False, Tie, FAR, FAR, False, None)


class Texts(Case):

    def test_the_text_of_a_tie(self):
        for tie, text in (
                (Tie(0, 4, 4, 2), "0 4 4 up 2"),
                (Tie(12, 3, 4, -7), "12 3 4 up -7"),
                (Tie(0, 4, 4, 7, down=True), "0 4 4 down 7"),
                (Tie(0, 4, 4, 7, backward=True), "0 4 4 up 7 back"),
                (Tie(0, 4, 4, 0, down=True, backward=True), "0 4 4 down 0 back"),
                (Tie(0, 4, 1, 7, backward=True), "0 4 1 up 7"),
                (Tie(0, FAR - 2, 2, FAR), f"0 {FAR - 2} 2 up {FAR}")):
            self.assertEqual(tie.text, text)
            self.assertEqual(six(Tie.of(text)), six(tie))
            self.assertEqual(six(Tie.of(text=text)), six(tie))

    def test_every_text_leads_back(self):
        for tie in small_ties(amounts=(0, -3)):
            self.same(six(Tie.of(tie.text)), six(tie))

    def test_the_last_word_may_be_back_for_one_place(self):
        self.same(six(Tie.of("0 4 1 up 7 back")), (0, 4, 1, 7, False, False))
        self.same(six(Tie.of("0 4 1 down 7 back")), (0, 4, 1, 7, True, False))
        self.assertEqual(Tie.of("0 4 1 up 7 back").text, "0 4 1 up 7")

    def test_other_texts(self):
        for text in (
                "", " ", "0", "0 4 4 up", "0 4 4 2", "0 4 4 up 2 ", " 0 4 4 up 2", "0  4 4 up 2", "0 4 4  up 2",
                "0 4 4 up  2", "0 4 4 up 2  back", "0 4 4 up 2 back ", "0 4 4 up 2 back back", "0 4 4 up 2 up",
                "0 4 4 up 2 Back", "0 4 4 up back", "0 4 4 Up 2", "0 4 4 back 2", "0 4 4 left 2", "up 0 4 4 2",
                "tie 0 4 4 up 2", "0 4 4 up 2\n", "\n0 4 4 up 2", "0\t4 4 up 2", "0 4 4 up +2", "0 4 4 up -0",
                "0 4 4 up 02", "00 4 4 up 2", "0 04 4 up 2", "0 4 04 up 2", "0 4 4 up 2.0", "0 4 4 up two",
                "a 4 4 up 2", "0 a 4 up 2", "0 4 a up 2", "0 4 4 up a", "0 4 4 up 1_0", "0 4 4 up \u0662",
                "0 4 4 up 2 3", "0 4 4 4 up 2", "0,4,4,up,2", "0 4 4 up 2 down", "0 4 4 up"):
            self.refused(BadText, text, Tie.of, text)

    def test_texts_of_what_is_no_tie(self):
        for text in (
                "-1 4 4 up 2", "0 -4 4 up 2", "0 4 0 up 2", "0 4 -4 up 2", f"{FAR} 4 1 up 2", f"0 {FAR} 1 up 2",
                f"0 0 {FAR + 1} up 2", f"1 0 {FAR} up 2 back"):
            self.refused(BadText, text, Tie.of, text)
        self.assertEqual(Tie.of(f"0 0 {FAR} up 2").length, FAR)

    def test_what_is_no_string(self):
        for wrong in NO_STRINGS + (["0 4 4 up 2"], ("0 4 4 up 2",), (0, 4, 4, "up", 2)):
            self.refused(BadText, wrong, Tie.of, wrong)

    def test_of_is_called_without_a_tie_or_with_one(self):
        self.assertIsInstance(vars(Tie)["of"], staticmethod)
        self.assertEqual(Tie(0, 0, 1).of("1 2 3 up 4").text, "1 2 3 up 4")


class Partners(Case):

    def test_straight(self):
        tie = Tie(2, 10, 3)
        self.assertEqual([tie(place) for place in (2, 3, 4)], [10, 11, 12])

    def test_backward(self):
        tie = Tie(2, 10, 3, backward=True)
        self.assertEqual([tie(place) for place in (2, 3, 4)], [12, 11, 10])

    def test_all_small_ties(self):
        for tie in small_ties():
            for place, (partner, _, _) in pairs(tie).items():
                self.same(tie(place), partner)

    def test_far_places(self):
        whole = Tie(0, 0, FAR, backward=True)
        self.assertEqual([whole(0), whole(FAR - 1), whole(7)], [FAR - 1, 0, FAR - 8])
        self.assertEqual(Tie(0, 3, FAR - 3, 1)(FAR - 4), FAR - 1)
        self.assertEqual(Tie(5, 8, 1)(place=5), 8)

    def test_other_places(self):
        for tie in (Tie(2, 10, 3), Tie(2, 10, 3, backward=True)):
            for wrong in NO_INTEGERS + (1, 5, 0, -1, 10, FAR):
                self.refused(NoPlace, wrong, tie, wrong)
        for wrong in (True, False):
            self.refused(NoPlace, wrong, Tie(0, 0, 2), wrong)


class Led(Case):

    def test_up_and_down(self):
        self.assertEqual([Tie(0, 1, 1, 2).led(note) for note in (10, 0, -3)], [12, 2, -1])
        self.assertEqual([Tie(0, 1, 1, 2, down=True).led(note) for note in (10, 0, -3)], [-8, 2, 5])
        self.assertEqual(Tie(0, 1, 1, -FAR).led(note=FAR), 0)

    def test_what_is_no_note(self):
        for wrong in NO_INTEGERS:
            self.refused(BadNote, wrong, Tie(0, 1, 1, 2).led, wrong)
            self.refused(BadNote, wrong, Tie(0, 1, 1, 2, down=True).led, wrong)


class Parts(Case):

    def test_straight(self):
        self.same(six(Tie(2, 10, 5, 3, down=True).part(1, 2)), (3, 11, 2, 3, True, False))

    def test_backward(self):
        self.same(six(Tie(2, 10, 5, 3, backward=True).part(1, 2)), (3, 12, 2, 3, False, True))
        self.same(six(Tie(2, 10, 5, 3, backward=True).part(1, 1)), (3, 13, 1, 3, False, False))

    def test_all_parts_of_small_ties_say_what_the_tie_says(self):
        for tie in small_ties(places=2):
            for start in range(tie.length):
                for length in range(1, tie.length - start + 1):
                    places = range(tie.first + start, tie.first + start + length)
                    wanted = {place: pairs(tie)[place] for place in places}
                    self.assertEqual(pairs(tie.part(start, length)), wanted)
                    self.assertIs(tie.part(start, length).backward, tie.backward and length > 1)

    def test_both_ends_and_one_beyond(self):
        for backward in (False, True):
            tie = Tie(2, 10, 5, 3, backward=backward)
            self.assertEqual(six(tie.part(0, 5)), six(tie))
            self.assertEqual(tie.part(0, 1).first, 2)
            self.assertEqual(tie.part(4, 1).first, 6)
            for start, length in ((0, 6), (1, 5), (5, 1), (4, 2), (-1, 1), (-1, 2), (0, 0), (0, -1), (5, 0), (9, -5)):
                self.refused(BadPart, (start, length), tie.part, start, length)

    def test_far_parts(self):
        whole = Tie(0, 0, FAR, 1, down=True, backward=True)
        self.assertEqual(whole.part(start=FAR - 2, length=2).text, f"{FAR - 2} 0 2 down 1 back")
        self.refused(BadPart, (FAR - 2, 3), whole.part, FAR - 2, 3)

    def test_other_values(self):
        tie = Tie(2, 10, 5)
        for wrong in NO_INTEGERS:
            self.refused(BadPart, (wrong, 1), tie.part, wrong, 1)
            self.refused(BadPart, (0, wrong), tie.part, 0, wrong)
            self.refused(BadPart, (wrong, wrong), tie.part, wrong, wrong)


class Equal(Case):

    def test_the_six_values_decide(self):
        tie = Tie(1, 2, 3, 4)
        self.assertTrue(tie == Tie(1, 2, 3, 4))
        self.assertFalse(tie != Tie(1, 2, 3, 4))
        for other in (Tie(0, 2, 3, 4), Tie(1, 3, 3, 4), Tie(1, 2, 4, 4), Tie(1, 2, 3, 5),
                      Tie(1, 2, 3, 4, down=True), Tie(1, 2, 3, 4, backward=True)):
            self.assertFalse(tie == other, other.text)
            self.assertTrue(tie != other, other.text)

    def test_nothing_else_is_equal(self):
        tie = Tie(0, 4, 4, 2)
        for other in NO_STRINGS + ("0 4 4 up 2", (0, 4, 4, 2, False, False)):
            self.assertIs(tie == other, False)
            self.assertIs(other == tie, False)


class Large(Case):

    def test_amounts_of_any_size_that_came_of_ties(self):
        tie = Tie(0, 0, 1, 1)
        for _ in range(200):
            tie = tie * FAR
        self.assertEqual(tie.amount, 10 ** 6000)
        self.assertEqual((~tie).amount, -10 ** 6000)
        self.assertTrue(Tie.of(tie.text) == tie)


class Example(Case):

    def test_as_it_stands(self):
        rise, climb, crab = Tie(0, 4, 4, 2), Tie(0, 3, 9, 5), Tie(0, 4, 4, 7, down=True, backward=True)
        self.assertEqual(
            [rise(1), rise.led(10), (~rise).text, (rise >> Tie(4, 8, 4, 1)).text, (climb * 3).text, crab.text,
             crab(0), crab.led(10)],
            [5, 12, '4 0 4 up -2', '0 8 4 up 3', '0 9 3 up 15', '0 4 4 down 7 back', 7, -3])
        self.assertEqual(
            [Tie(0, 3, 9, 5, down=True) * 2 == Tie(0, 6, 6),
             (rise >> Tie(4, 8, 4, 7, down=True, backward=True)).text, rise.part(1, 2).text],
            [True, '0 8 4 down 5 back', '1 5 2 up 2'])


if __name__ == "__main__":
    unittest.main()
