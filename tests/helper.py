"""What the tests share: values of every kind, and how a refusal is checked."""

import unittest
from itertools import product

from turnedtunes.books import Book
from turnedtunes.ties import Tie

FAR = 10 ** 30


def deep(levels):
    value = ()
    for _ in range(levels):
        value = (value,)
    return value


# Values of each kind that are no integer.
NO_INTEGERS = (
    True, False, None, "", "1", "0 4 4 up 2", "size 4", (), (1,), (0, 1), [], [1], {}, {1: 2}, deep(20),
    Tie(0, 1, 1), Book("size 4"), Book("size 4\ntie 0 1 1 up 0"),
)

# Values of each kind that are no bool.
NO_BOOLS = tuple(value for value in NO_INTEGERS if not isinstance(value, bool)) + (0, 1, -1, FAR)

# Values of each kind that are no string.
NO_STRINGS = tuple(value for value in NO_INTEGERS if not isinstance(value, str)) + (0, 1, -1, FAR)


def alike(one, other):
    """Whether two values are the same to the kind of each number in them."""
    if isinstance(one, tuple) and isinstance(other, tuple):
        return len(one) == len(other) and all(alike(a, b) for a, b in zip(one, other))
    return one is other or (type(one) is type(other) and one == other)


class Case(unittest.TestCase):

    def refused(self, error, value, call, *args, **named):
        """The call raises this very error, with this very value."""
        with self.assertRaises(ValueError) as caught:
            call(*args, **named)
        self.assertIs(type(caught.exception), error)
        self.assertTrue(alike(caught.exception.value, value), (caught.exception.value, value))

    def same(self, found, wanted):
        self.assertTrue(alike(found, wanted), (found, wanted))


def six(tie):
    return (tie.first, tie.second, tie.length, tie.amount, tie.down, tie.backward)


def small_ties(places=3, lengths=(1, 2, 3), amounts=(0, 3)):
    """All ties of a few places; those of one place only straight."""
    for first, second, length, amount, down, backward in product(
            range(places), range(places), lengths, amounts, (False, True), (False, True)):
        if length > 1 or not backward:
            yield Tie(first, second, length, amount, down=down, backward=backward)


def pairs(tie):
    """What a small tie says, place by place, worked out from its six values alone."""
    first, second, length, amount, down, backward = six(tie)
    partners = range(second, second + length)
    if backward:
        partners = reversed(partners)
    sign = -1 if down else 1
    return {first + k: (partner, amount, sign) for k, partner in enumerate(partners)}


def keeps(book, melody):
    """Whether a melody, as a list of notes, keeps a small book."""
    return (
        len(melody) == book.size
        and all(melody[partner] == amount + sign * melody[place]
                for tie in book.ties for place, (partner, amount, sign) in pairs(tie).items())
        and all(melody[place] == note for place, note in book.notes)
    )
