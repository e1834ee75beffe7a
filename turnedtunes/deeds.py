"""Deeds as lines, as journals keep them and as they are said at a desk."""

from turnedtunes.forms import numbers_behind, tie_behind


def does_deed(hearing, line):
    """Does to a hearing what a line tells; whether the line tells a deed at all."""
    tie = tie_behind(line, "hear")
    if tie is not None:
        hearing.hear(tie)
        return True
    numbers = numbers_behind(line, "note", 2)
    if numbers is not None:
        hearing.note(numbers[0], numbers[1])
        return True
    numbers = numbers_behind(line, "forget", 1)
    if numbers is not None:
        hearing.forget(numbers[0])
        return True
    numbers = numbers_behind(line, "drop", 1)
    if numbers is not None:
        hearing.drop(numbers[0])
        return True
    return False
