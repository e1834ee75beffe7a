"""Ties: a part of a melody is another one, raised, upside down, backward."""

from turnedtunes.errors import BadAmount, BadLength, BadNote, BadNumber, BadPart
from turnedtunes.errors import BadPlace, BadText, BadWay, NoJoint, NoPlace
from turnedtunes.integers import GREATEST, is_between, is_from, is_whole, number_in, written


class Tie:
    """Says that a second part is a first one, note for note, each note led elsewhere."""

    def __init__(self, first, second, length, amount=0, *, down=False, backward=False):
        _check_parts(first, second, length)
        _check_leading(amount, down, backward)
        self.first = first
        self.second = second
        self.length = length
        self.amount = amount
        self.down = down
        # A single note reads the same both ways: so such ties have one form.
        self.backward = backward and length > 1
        way = "down" if down else "up"
        back = " back" if self.backward else ""
        self.text = f"{first} {second} {length} {way} {written(amount)}{back}"

    @staticmethod
    def of(text):
        """The tie of a text."""
        values = _values_in(text)
        if values is None:
            raise BadText(text)
        first, second, length, amount, down, backward = values
        try:
            tie = Tie(first, second, length, amount, down=down, backward=backward)
        except (BadPlace, BadLength):
            raise BadText(text) from None
        return tie

    def __call__(self, place):
        """The partner of a place of the first part."""
        if not is_between(place, self.first, self.first + self.length - 1):
            raise NoPlace(place)
        step = place - self.first
        if self.backward:
            return self.second + self.length - 1 - step
        return self.second + step

    def led(self, note):
        """What a note of the first part becomes in the second one."""
        if not is_whole(note):
            raise BadNote(note)
        return self.amount - note if self.down else self.amount + note

    def part(self, start, length):
        """The tie of so many places from first + start on, with their partners."""
        if not is_from(start, 0) or not is_from(length, 1) or start + length > self.length:
            raise BadPart((start, length))
        first = self.first + start
        # Read backward, the last places of the first part have the first partners.
        second = self.second + (self.length - start - length if self.backward else start)
        return Tie(first, second, length, self.amount, down=self.down, backward=self.backward)

    def __invert__(self):
        amount = self.amount if self.down else -self.amount
        return Tie(self.second, self.first, self.length, amount, down=self.down, backward=self.backward)

    def __rshift__(self, other):
        if not isinstance(other, Tie):
            return NotImplemented
        start = max(self.second, other.first)
        end = min(self.second + self.length, other.first + other.length)
        if start >= end:
            raise NoJoint((self, other))
        ahead = self.second + self.length - end if self.backward else start - self.second
        return _one_behind_other(self.part(ahead, end - start), other.part(start - other.first, end - start))

    def __mul__(self, other):
        if not is_between(other, 1, GREATEST):
            raise BadNumber(other)
        if other == 1:
            return self
        if self.backward:
            return _backward_times(self, other)
        return _straight_times(self, other)

    def __eq__(self, other):
        return (isinstance(other, Tie) and self.first == other.first and self.second == other.second
                and self.length == other.length and self.amount == other.amount
                and self.down == other.down and self.backward == other.backward)


def is_tie_within(value, size):
    """Whether a value is a tie both of whose parts lie within so many places."""
    return isinstance(value, Tie) and max(value.first, value.second) + value.length <= size


def _check_parts(first, second, length):
    if not is_from(first, 0):
        raise BadPlace(first)
    if not is_from(second, 0):
        raise BadPlace(second)
    if not is_from(length, 1) or max(first, second) + length > GREATEST:
        raise BadLength(length)


def _check_leading(amount, down, backward):
    if not is_whole(amount):
        raise BadAmount(amount)
    if not isinstance(down, bool):
        raise BadWay(down)
    if not isinstance(backward, bool):
        raise BadWay(backward)


def _values_in(text):
    """The six values that stand in the text of a tie; None if it has another form."""
    if not isinstance(text, str):
        return None
    words = text.split(" ")
    backward = len(words) == 6 and words[5] == "back"
    if (len(words) != 5 and not backward) or words[3] not in ("up", "down"):
        return None
    numbers = [number_in(word) for word in (words[0], words[1], words[2], words[4])]
    if None in numbers:
        return None
    return *numbers, words[3] == "down", backward


def _one_behind_other(one, other):
    """Where one leads, all of it, other leads on."""
    amount = other.amount - one.amount if other.down else other.amount + one.amount
    return Tie(one.first, other.second, one.length, amount,
               down=one.down != other.down, backward=one.backward != other.backward)


def _straight_times(tie, many):
    step = tie.second - tie.first
    length = tie.length - (many - 1) * abs(step)
    # Going to the left, only the last places can be led so often.
    first = tie.first + (many - 1) * max(0, -step)
    return _times(tie, many, first, first + many * step, length)


def _backward_times(tie, many):
    # Led twice, a place comes back to itself: so the places that both parts
    # share can be led as often as one likes, and no others even twice.
    first = max(tie.first, tie.second)
    length = tie.length - abs(tie.second - tie.first)
    return _times(tie, many, first, first, length)


def _times(tie, many, first, second, length):
    if length < 1:
        raise NoJoint((tie, tie))
    odd = many % 2 == 1
    # Upside down twice, a note is itself again.
    amount = tie.amount * (many % 2 if tie.down else many)
    return Tie(first, second, length, amount, down=tie.down and odd, backward=tie.backward and odd)
