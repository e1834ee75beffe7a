"""Which values are places of a melody, and which tell a stretch of it that may be heard."""

from turnedtunes.errors import BadLength, NoPlace
from turnedtunes.integers import is_between

# So many places are heard at once at most.
_LONGEST = 99


def check_place(place, size):
    if not is_between(place, 0, size - 1):
        raise NoPlace(place)


def check_stretch(first, length, size):
    check_place(first, size)
    if not is_between(length, 1, min(_LONGEST, size - first)):
        raise BadLength(length)
