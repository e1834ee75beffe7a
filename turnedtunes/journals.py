"""Journals: a hearing as the lines of all deeds that stand."""

from turnedtunes.deeds import does_deed
from turnedtunes.errors import BadJournal, TuneError
from turnedtunes.forms import size_in
from turnedtunes.hearings import Hearing


def journal(hearing):
    """The size of a hearing, and its deeds, line by line."""
    deeds = [line for line, _, _ in hearing.past[1:]]
    return "\n".join([f"size {hearing.size}", *deeds])


def read_journal(text):
    """A hearing to which was done what a journal tells."""
    if not isinstance(text, str):
        raise BadJournal(0)
    lines = text.split("\n")
    size = size_in(lines[0])
    if size is None:
        raise BadJournal(1)
    hearing = Hearing(size)
    for number, line in enumerate(lines[1:], start=2):
        if not _is_done(hearing, line):
            raise BadJournal(number)
    return hearing


def _is_done(hearing, line):
    """Whether a line told a deed that was done."""
    try:
        found = does_deed(hearing, line)
    except TuneError:
        return False
    return found
