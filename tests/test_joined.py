"""Point 4: ties told from the second part, joined, and joined many times."""

import unittest
from functools import reduce

from turnedtunes.errors import BadNumber, NoJoint
from turnedtunes.ties import Tie
from tests.helper import FAR, NO_INTEGERS, Case, pairs, six, small_ties


def led_on(one, other):
    """Of two lists of pairs, place by place, where the one leads and the other leads on."""
    found = {}
    for place, (middle, amount, sign) in one.items():
        if middle in other:
            last, more, turn = other[middle]
            found[place] = (last, more + turn * amount, sign * turn)
    return found


class Told(Case):

    def test_from_the_second_part(self):
        self.same(six(~Tie(1, 8, 3, 5)), (8, 1, 3, -5, False, False))
        self.same(six(~Tie(1, 8, 3, 5, down=True)), (8, 1, 3, 5, True, False))
        self.same(six(~Tie(1, 8, 3, 5, backward=True)), (8, 1, 3, -5, False, True))
        self.same(six(~Tie(1, 8, 3, 5, down=True, backward=True)), (8, 1, 3, 5, True, True))

    def test_it_says_the_same(self):
        for tie in small_ties():
            other = ~tie
            for place in pairs(tie):
                self.assertEqual(other(tie(place)), place)
                for note in (-7, 0, 2):
                    self.assertEqual(other.led(tie.led(note)), note)
            self.assertEqual(len(pairs(other)), len(pairs(tie)))
            self.assertTrue(~other == tie)


class Joined(Case):

    def test_ways_and_amounts(self):
        for one, other, wanted in (
                (Tie(0, 4, 4, 2), Tie(4, 8, 4, 1), "0 8 4 up 3"),
                (Tie(0, 4, 4, 2, down=True), Tie(4, 8, 4, 1), "0 8 4 down 3"),
                (Tie(0, 4, 4, 2), Tie(4, 8, 4, 1, down=True), "0 8 4 down -1"),
                (Tie(0, 4, 4, 2, down=True), Tie(4, 8, 4, 1, down=True), "0 8 4 up -1"),
                (Tie(0, 4, 4, 2, backward=True), Tie(4, 8, 4, 1), "0 8 4 up 3 back"),
                (Tie(0, 4, 4, 2), Tie(4, 8, 4, 1, backward=True), "0 8 4 up 3 back"),
                (Tie(0, 4, 4, 2, backward=True), Tie(4, 8, 4, 1, backward=True), "0 8 4 up 3")):
            self.assertEqual((one >> other).text, wanted)

    def test_only_the_places_that_lead_there(self):
        for one, other, wanted in (
                (Tie(0, 10, 4), Tie(12, 20, 9), "2 20 2 up 0"),
                (Tie(0, 10, 4, backward=True), Tie(12, 20, 9), "0 20 2 up 0 back"),
                (Tie(0, 10, 4), Tie(5, 20, 7), "0 25 2 up 0"),
                (Tie(0, 10, 4), Tie(5, 20, 7, backward=True), "0 20 2 up 0 back"),
                (Tie(0, 10, 9), Tie(12, 20, 3), "2 20 3 up 0"),
                (Tie(3, 12, 3), Tie(10, 20, 9), "3 22 3 up 0")):
            self.assertEqual((one >> other).text, wanted)

    def test_one_common_place_and_none(self):
        for backward in (False, True):
            one = Tie(0, 10, 4, 3, backward=backward)
            last, first = (3, 0) if not backward else (0, 3)
            self.same(six(one >> Tie(13, 20, 4, backward=True)), (last, 23, 1, 3, False, False))
            self.same(six(one >> Tie(13, 20, 4)), (last, 20, 1, 3, False, False))
            self.same(six(one >> Tie(7, 20, 4)), (first, 23, 1, 3, False, False))
            for other in (Tie(14, 20, 4), Tie(6, 20, 4), Tie(6, 20, 4, backward=True), Tie(0, 10, 4)):
                self.refused(NoJoint, (one, other), lambda: one >> other)

    def test_all_pairs_of_small_ties(self):
        ties = list(small_ties(amounts=(3,)))
        for one in ties:
            for other in ties:
                wanted = led_on(pairs(one), pairs(other))
                if wanted:
                    self.assertEqual(pairs(one >> other), wanted)
                else:
                    self.refused(NoJoint, (one, other), lambda: one >> other)

    def test_far_ties(self):
        one, other = Tie(0, 5, FAR - 5, 1), Tie(FAR - 6, 2, 6, 4, down=True, backward=True)
        self.assertEqual((one >> other).text, f"{FAR - 11} 2 6 down 3 back")
        self.assertEqual((other >> one).text, f"{FAR - 6} 7 6 down 5 back")


class Times(Case):

    def test_once_is_the_tie(self):
        for tie in small_ties():
            self.assertEqual(six(tie * 1), six(tie))

    def test_all_small_ties_as_often_as_they_are_joined(self):
        for tie in small_ties(lengths=(1, 2, 3, 5)):
            for many in range(1, 8):
                wanted = reduce(led_on, [pairs(tie)] * many)
                if wanted:
                    self.assertEqual(pairs(tie * many), wanted, (tie.text, many))
                else:
                    self.refused(NoJoint, (tie, tie), lambda: tie * many)

    def test_it_is_what_joining_returns(self):
        for tie in (Tie(0, 2, 9, 5), Tie(2, 0, 9, 5), Tie(0, 2, 9, 5, down=True), Tie(0, 2, 9, 5, backward=True),
                    Tie(2, 0, 9, 5, down=True, backward=True), Tie(3, 3, 2, 1, backward=True)):
            joined = tie
            for many in range(2, 6):
                joined = joined >> tie
                self.same(six(tie * many), six(joined))

    def test_as_often_as_can_be(self):
        step = 10 ** 29
        self.assertEqual((Tie(0, step, FAR - step, 2) * 9).text, f"0 {9 * step} {step} up 18")
        self.assertEqual((Tie(step, 0, FAR - step, 2) * 9).text, f"{9 * step} 0 {step} up 18")
        self.refused(NoJoint, (Tie(0, step, 3), Tie(0, step, 3)), lambda: Tie(0, step, 3) * 2)
        rise, fall = Tie(0, 1, FAR - 1, 1), Tie(1, 0, FAR - 1, 1, down=True)
        self.assertEqual((rise * (FAR - 1)).text, f"0 {FAR - 1} 1 up {FAR - 1}")
        self.assertEqual((fall * (FAR - 1)).text, f"{FAR - 1} 0 1 down 1")
        self.assertEqual((fall * (FAR - 2)).text, f"{FAR - 2} 0 2 up 0")
        for tie in (rise, fall):
            self.refused(NoJoint, (tie, tie), lambda: tie * FAR)

    def test_on_one_part_without_end(self):
        self.assertEqual((Tie(4, 4, 3, 5) * FAR).text, f"4 4 3 up {5 * FAR}")
        self.assertEqual((Tie(4, 4, 3, 5, down=True) * FAR).text, "4 4 3 up 0")
        self.assertEqual((Tie(4, 4, 3, 5, down=True) * (FAR - 1)).text, "4 4 3 down 5")
        self.assertEqual((Tie(4, 4, FAR - 4, 5) * 2).text, f"4 4 {FAR - 4} up 10")

    def test_backward_without_end(self):
        for tie in (Tie(4, 6, 5, 3, backward=True), Tie(6, 4, 5, 3, backward=True)):
            self.assertEqual((tie * 2).text, "6 6 3 up 6")
            self.assertEqual((tie * 3).text, "6 6 3 up 9 back")
            self.assertEqual((tie * FAR).text, f"6 6 3 up {3 * FAR}")
            self.assertEqual((tie * (FAR - 1)).text, f"6 6 3 up {3 * (FAR - 1)} back")
        crab = Tie(4, 6, 5, 3, down=True, backward=True)
        self.assertEqual((crab * FAR).text, "6 6 3 up 0")
        self.assertEqual((crab * (FAR - 1)).text, "6 6 3 down 3 back")

    def test_backward_with_one_common_place_and_none(self):
        self.assertEqual((Tie(0, 4, 5, 3, backward=True) * 3).text, "4 4 1 up 9")
        for tie in (Tie(0, 5, 5, 3, backward=True), Tie(5, 0, 5, 3, backward=True), Tie(9, 0, 2, backward=True)):
            for many in (2, 3, FAR):
                self.refused(NoJoint, (tie, tie), lambda: tie * many)

    def test_other_numbers(self):
        for tie in (Tie(4, 4, 3, 5), Tie(0, 9, 1), Tie(0, 2, 5, backward=True)):
            for wrong in NO_INTEGERS + (0, -1, FAR + 1, -FAR, FAR * FAR):
                self.refused(BadNumber, wrong, lambda: tie * wrong)

    def test_a_wrong_number_comes_ahead_of_no_joint(self):
        apart = Tie(0, 9, 1)
        self.refused(BadNumber, FAR + 1, lambda: apart * (FAR + 1))
        self.refused(BadNumber, True, lambda: apart * True)


class Unchanged(Case):

    def test_no_call_changes_a_tie(self):
        one, other = Tie(0, 4, 4, 2), Tie(6, 0, 9, 3, down=True, backward=True)
        before = six(one), one.text, six(other), other.text
        for _ in range(2):
            found = [one(0), one.led(1), one.part(1, 2), ~one, one >> other, other >> one, other * 3, one == other]
            again = [one(0), one.led(1), one.part(1, 2), ~one, one >> other, other >> one, other * 3, one == other]
            self.assertEqual(found, again)
        for call in (lambda: one(9), lambda: one.led(None), lambda: one.part(4, 1), lambda: one * 0,
                     lambda: one * 2, lambda: one >> Tie(99, 0, 1)):
            self.assertRaises(ValueError, call)
        self.assertEqual((six(one), one.text, six(other), other.text), before)


if __name__ == "__main__":
    unittest.main()
