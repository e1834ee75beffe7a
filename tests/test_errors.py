"""Point 15, and what point 2 says of errors."""

import unittest

from turnedtunes import errors
from turnedtunes.errors import TuneError
from tests.helper import NO_INTEGERS, Case

NAMES = (
    "BadPlace", "BadLength", "BadAmount", "BadWay", "BadText", "NoPlace", "BadNote", "BadPart", "NoJoint",
    "BadNumber", "BadBook", "NoTie", "BadTie", "Full", "OtherSize", "OtherNote", "BadSize", "Clash",
    "BadPieces", "IsTold", "NoNumber", "BadBounds", "NoRoom", "BadOffers", "BadWishes", "NothingToUndo",
    "NothingToRedo", "NoTrial", "BadJournal", "BadLine",
)
ALL = (TuneError,) + tuple(getattr(errors, name) for name in NAMES)


class Errors(Case):

    def test_thirty_stand_directly_below_the_one_above(self):
        self.assertEqual(len(NAMES), 30)
        self.assertEqual(TuneError.__bases__, (ValueError,))
        for name in NAMES:
            self.assertEqual(getattr(errors, name).__bases__, (TuneError,), name)
            self.assertEqual(getattr(errors, name).__name__, name)

    def test_there_are_no_others(self):
        found = [name for name, what in vars(errors).items() if isinstance(what, type)]
        self.assertEqual(sorted(found), sorted(NAMES + ("TuneError",)))

    def test_each_keeps_any_value(self):
        for error in ALL:
            for value in NO_INTEGERS + (0, -1, 10 ** 40, errors.BadPlace(-1)):
                self.assertIs(error(value).value, value)
                self.assertIs(error(value=value).value, value)

    def test_each_takes_just_one_argument(self):
        for error in ALL:
            self.assertRaises(TypeError, error)
            self.assertRaises(TypeError, error, 1, 2)

    def test_a_tuple_stays_one_value(self):
        for error in ALL:
            self.same(error((1, True)).value, (1, True))

    def test_each_can_be_raised_and_caught_from_above(self):
        for error in ALL:
            for above in (error, TuneError, ValueError):
                with self.assertRaises(above) as caught:
                    raise error(7)
                self.assertIs(type(caught.exception), error)
                self.assertEqual(caught.exception.value, 7)

    def test_the_message_shows_the_value(self):
        for error in ALL:
            self.assertEqual((str(error(7)), str(error(value=7))), ("7", "7"))


if __name__ == "__main__":
    unittest.main()
