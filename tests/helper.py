"""What the tests share: values of every kind, and how a refusal is checked."""

import unittest
from itertools import product
from random import Random

from turnedtunes.books import Book
from turnedtunes.desk import Desk
from turnedtunes.hearings import Hearing
from turnedtunes.melodies import Melody
from turnedtunes.ties import Tie

FAR = 10 ** 30


def deep(levels):
    value = ()
    for _ in range(levels):
        value = (value,)
    return value


# Values of each kind that are no integer.
NO_INTEGERS = (
    True, False, None, "", "1", "0 4 4 up 2", "size 4", (), (1,), (0, 1), [], [1], {}, {1: 2}, deep(20),
    Tie(0, 1, 1), Book("size 4"), Book("size 4\ntie 0 1 1 up 0"), Melody((("new", 1),)), Hearing(4), Desk("size 4"),
    Hearing(4).trial(), [[()], {"": [None, -1]}], ((True,), [1]),
)

# Values of each kind that are no bool.
NO_BOOLS = tuple(value for value in NO_INTEGERS if not isinstance(value, bool)) + (0, 1, -1, FAR)

# Values of each kind that are no string.
NO_STRINGS = tuple(value for value in NO_INTEGERS if not isinstance(value, str)) + (0, 1, -1, FAR)


def alike(one, other):
    """Whether two values are the same to the kind of each number in them."""
    if isinstance(one, tuple) and isinstance(other, tuple):
        return len(one) == len(other) and all(alike(a, b) for a, b in zip(one, other))
    return one is other or (type(one) is type(other) and one == other)


class Case(unittest.TestCase):

    def refused(self, error, value, call, *args, **named):
        """The call raises this very error, with this very value."""
        with self.assertRaises(ValueError) as caught:
            call(*args, **named)
        self.assertIs(type(caught.exception), error)
        self.assertTrue(alike(caught.exception.value, value), (caught.exception.value, value))

    def same(self, found, wanted):
        self.assertTrue(alike(found, wanted), (found, wanted))


def six(tie):
    return (tie.first, tie.second, tie.length, tie.amount, tie.down, tie.backward)


def small_ties(places=3, lengths=(1, 2, 3), amounts=(0, 3)):
    """All ties of a few places; those of one place only straight."""
    for first, second, length, amount, down, backward in product(
            range(places), range(places), lengths, amounts, (False, True), (False, True)):
        if length > 1 or not backward:
            yield Tie(first, second, length, amount, down=down, backward=backward)


def pairs(tie):
    """What a small tie says, place by place, worked out from its six values alone."""
    first, second, length, amount, down, backward = six(tie)
    partners = range(second, second + length)
    if backward:
        partners = reversed(partners)
    sign = -1 if down else 1
    return {first + k: (partner, amount, sign) for k, partner in enumerate(partners)}


def keeps(book, melody):
    """Whether a melody, as a list of notes, keeps a small book."""
    return (
        len(melody) == book.size
        and all(melody[partner] == amount + sign * melody[place]
                for tie in book.ties for place, (partner, amount, sign) in pairs(tie).items())
        and all(melody[place] == note for place, note in book.notes)
    )


def text(*lines):
    return "\n".join(lines)


def book_of(size, ties=(), notes=()):
    """The book of these ties, and these (place, note)."""
    return Book(text(f"size {size}", *[f"tie {tie.text}" for tie in ties],
                     *[f"note {place} {note}" for place, note in notes]))


def lead_on(lead, other):
    """One lead behind another one; a lead (amount, sign) makes amount + sign * x of x."""
    return other[0] + other[1] * lead[0], lead[1] * other[1]


def roads(book):
    """What a small book says, place by place: (place, partner, lead), in both directions."""
    found = []
    for tie in book.ties:
        for place, (partner, amount, sign) in pairs(tie).items():
            found.append((place, partner, (amount, sign)))
            found.append((partner, place, (-sign * amount, sign)))
    return found + [(place, place, (2 * note, -1)) for place, note in book.notes]


def hung(book):
    """What hangs tells of each place of a small book, got by joining all places one by one; None if it clashes."""
    ways = {place: [] for place in range(book.size)}
    for place, partner, lead in roads(book):
        ways[place].append((partner, lead))
    found = [None] * book.size
    for least in range(book.size):
        if found[least] is None:
            for place, told in hung_on(least, ways).items():
                found[place] = told
    return None if None in found else found


def hung_on(least, ways):
    """What is told of all places that are joined with the least of them; None where it clashes."""
    leads, note, waiting = {least: (0, 1)}, None, [least]
    clash = False
    while waiting:
        place = waiting.pop()
        for partner, lead in ways[place]:
            amount, sign = lead_on(leads[place], lead)
            if partner not in leads:
                leads[partner] = amount, sign
                waiting.append(partner)
            elif leads[partner] != (amount, sign):
                known, other = leads[partner]
                twice = (known - amount) * sign
                clash = clash or sign == other or twice % 2 == 1 or note not in (None, twice // 2)
                note = twice // 2
    if clash:
        return {place: None for place in leads}
    if note is not None:
        return {place: ("told", amount + sign * note) for place, (amount, sign) in leads.items()}
    return {place: ("up" if sign == 1 else "down", least, amount) for place, (amount, sign) in leads.items()}


def between(one, other):
    """What interval tells of two places, of what hangs tells of them."""
    if one[0] == other[0] == "told":
        return "up", other[1] - one[1]
    if "told" in (one[0], other[0]) or one[1] != other[1]:
        return ("open",)
    if one[0] == other[0]:
        return "up", other[2] - one[2]
    return "down", one[2] + other[2]


def melody_by(told, chosen):
    """A melody as a list of notes: chosen[q] is the note of each free place q."""
    signs = {"up": 1, "down": -1}
    return [what[1] if what[0] == "told" else what[2] + signs[what[0]] * chosen[what[1]] for what in told]


def drawn_tie(draw, size, tune=None):
    """A tie of so many places; a tune, where there is one, keeps it."""
    length = draw.randint(1, size)
    first, second = draw.randint(0, size - length), draw.randint(0, size - length)
    down, backward = draw.random() < .3, draw.random() < .4
    tie = Tie(first, second, length, draw.choice((0, 0, 2, -2, 1, -3)), down=down, backward=backward)
    if tune is None:
        return tie
    amount = tune[tie(first)] + (tune[first] if down else -tune[first])
    tie = Tie(first, second, length, amount, down=down, backward=backward)
    kept = 1
    while kept < length and tune[tie(first + kept)] == tie.led(tune[first + kept]):
        kept += 1
    return tie.part(0, kept)


def drawn_tune(draw, size):
    """A melody that goes on by a figure, higher each time, so that long ties keep it."""
    figure = [draw.randint(-2, 2) for _ in range(draw.randint(1, size))]
    step = draw.randint(-1, 2)
    return [figure[place % len(figure)] + place // len(figure) * step for place in range(size)]


def drawn_books(seed, many, greatest=14, ties=4):
    """Small books: some that a tune keeps, and some that perhaps no melody keeps."""
    draw = Random(seed)
    for _ in range(many):
        size = draw.randint(1, greatest)
        tune = drawn_tune(draw, size)
        kept = draw.random() < .6
        told = [drawn_tie(draw, size, tune if kept else None) for _ in range(draw.randint(0, ties))]
        places = draw.sample(range(size), min(size, draw.choice((0, 0, 1, 2))))
        yield book_of(size, told, [(place, tune[place]) for place in places])


def kept_books(seed, many, greatest=14, ties=4):
    """(book, what hangs tells of each place), of drawn books that some melody keeps."""
    for book in drawn_books(seed, many, greatest, ties):
        told = hung(book)
        if told is not None:
            yield book, told


def drawn_climbs(seed, many):
    """(book, what hangs tells of each place): long climbs, parts of which are told again far above or below."""
    draw = Random(seed)
    for _ in range(many):
        step, rows, ahead = draw.randint(1, 4), draw.randint(2, 7), draw.randint(0, 2)
        size = ahead + step * rows + draw.randint(0, step)
        ties = [Tie(ahead, ahead + step, size - step - ahead, draw.randint(-3, 3), down=draw.random() < .5)]
        for _ in range(draw.randint(1, 3)):
            length = draw.randint(1, min(size, 14))
            first = draw.randint(0, size - length)
            ties.append(Tie(first, size, length, draw.choice((-40, -9, 0, 9, 40)), down=draw.random() < .3,
                            backward=draw.random() < .3))
            size += length
        book = book_of(size, ties)
        yield book, hung(book)
