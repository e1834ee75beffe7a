"""A desk: a hearing to which one speaks in lines."""

from turnedtunes.compass import compass
from turnedtunes.deeds import does_deed
from turnedtunes.errors import BadLine
from turnedtunes.forms import numbers_behind
from turnedtunes.hanging import hangs
from turnedtunes.integers import written
from turnedtunes.intervals import interval
from turnedtunes.journals import read_journal


class Desk:
    """A hearing, got from its journal, that answers lines."""

    def __init__(self, text):
        self.hearing = read_journal(text)

    def say(self, line):
        """The answer to a line."""
        if not isinstance(line, str):
            raise BadLine(line)
        if _does(self.hearing, line):
            return "ok"
        answer = _answer(self.hearing, line)
        if answer is None:
            raise BadLine(line)
        return answer


def _does(hearing, line):
    """Does what a line asks for; whether it asks for anything to be done."""
    if line == "undo":
        hearing.undo()
        return True
    if line == "redo":
        hearing.redo()
        return True
    return does_deed(hearing, line)


def _answer(hearing, line):
    """What a hearing tells to a line that asks for something; None if it does not."""
    if line == "free":
        return written(hearing.free)
    if line == "compass":
        return written(compass(hearing.book))
    places = numbers_behind(line, "where", 1)
    if places is not None:
        return _spoken(hangs(hearing.book, places[0]))
    places = numbers_behind(line, "between", 2)
    if places is not None:
        return _spoken(interval(hearing.book, places[0], places[1]))
    return None


def _spoken(found):
    """A word and numbers behind it, as a line."""
    return " ".join([found[0], *[written(number) for number in found[1:]]])
