"""Integers in texts, and which values are integers (point 2)."""

import unittest

from turnedtunes.integers import is_between, is_from, is_whole, number_in, written
from tests.helper import FAR, NO_INTEGERS, Case

LONG = 10 ** 3000 + 7


class Integers(Case):

    def test_a_bool_is_no_integer(self):
        for value in NO_INTEGERS:
            self.assertIs(is_whole(value), False)
            self.assertIs(is_from(value, -FAR), False)
            self.assertIs(is_between(value, -FAR, FAR), False)
        for value in (0, 1, -1, FAR, -FAR):
            self.assertIs(is_whole(value), True)

    def test_limits(self):
        self.assertEqual([is_from(k, 3) for k in (2, 3, 4)], [False, True, True])
        self.assertEqual([is_between(k, 3, 5) for k in (2, 3, 5, 6)], [False, True, True, False])

    def test_numbers_are_written_as_python_writes_them(self):
        numbers = [0, 1, 9, 10, 123, LONG]
        numbers.extend(10 ** k + d for k in (29, 30, 31, 63, 64, 65, 127, 128, 129, 192) for d in (-1, 0, 1))
        for number in numbers:
            for signed in (number, -number):
                self.assertEqual(written(signed), str(signed))
                self.same(number_in(str(signed)), signed)

    def test_numbers_longer_than_python_converts(self):
        number = 10 ** 6000 + 3
        text = "1" + "0" * 5999 + "3"
        self.assertEqual((written(number), written(-number)), (text, "-" + text))
        self.assertEqual((number_in(text), number_in("-" + text)), (number, -number))

    def test_other_words_are_no_numbers(self):
        words = (
            "", "-", "--1", "-0", "+1", "00", "01", "-01", "1_0", " 1", "1 ", "1\n", "1.0", "1e3", "0x1", "a",
            "1-", "\u0661", "\u00b2", "\uff11", "True", "None",
        )
        for word in words:
            self.assertIsNone(number_in(word), word)


if __name__ == "__main__":
    unittest.main()
