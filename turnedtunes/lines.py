"""Lines: how what is sure follows from what is told, step by step."""

from turnedtunes.errors import BadNumber, BadPart, NoJoint
from turnedtunes.integers import is_from
from turnedtunes.links import is_telling, links_of_book
from turnedtunes.melodies import Melody, keeps
from turnedtunes.pieces import index_at, pieces_of, read, starts_of
from turnedtunes.places import check_place
from turnedtunes.solving import cuts_of, solved
from turnedtunes.steps import step_back, step_joined, step_part, step_times, steps_up_to
from turnedtunes.ties import Tie

# How many numbers stand behind the word of a reason.
_NUMBERS = {"told": 1, "note": 1, "back": 1, "joined": 2, "times": 2, "part": 3}


def why(book, place):
    """Lines that lead to how a place hangs on the least one, or to its note; none for a free place."""
    check_place(place, book.size)
    step = _step_to(solved(book), place)
    return () if step is None else _written(book, step)


def shows_why(book, place, value):
    """Whether a value is a correct result of why."""
    check_place(place, book.size)
    tie = _tie_of_place(pieces_of(solved(book)), place)
    if tie is None:
        return isinstance(value, tuple) and len(value) == 0
    return _are_lines(book, value) and value[-1][0] == tie


def fits(book):
    """("fits", melody): a melody that keeps the book; or ("clash", lines): lines to a tie that cannot be."""
    cuts, clash = cuts_of(book.size, links_of_book(book))
    if clash is None:
        return "fits", Melody(pieces_of(cuts))
    return "clash", _written(book, clash)


def shows_fits(book, value):
    """Whether a value is a correct result of fits."""
    if not isinstance(value, tuple) or len(value) != 2:
        return False
    word, shown = value
    if word == "fits":
        return isinstance(shown, Melody) and keeps(book, shown)
    return word == "clash" and _are_lines(book, shown) and _cannot_be(shown[-1][0])


def _cannot_be(tie):
    if tie.first != tie.second or tie.backward:
        return False
    return tie.amount % 2 == 1 if tie.down else tie.amount != 0


def _tie_of_place(pieces, place):
    """The tie to which the lines of a place lead; None if it is free."""
    found = read(pieces, starts_of(pieces), place)
    if found[0] == "told":
        return _tie_of_note(place, found[1])
    word, least, amount = found
    return None if least == place else Tie(least, place, 1, amount, down=word == "down")


def _tie_of_note(place, note):
    return Tie(place, place, 1, 2 * note, down=True)


def _step_to(cuts, place):
    """The step to the tie from the least place to this one, or to that of its note; None if it is free."""
    starts = [start for start, _, _ in cuts]
    starts.append(cuts[-1][1])
    path = None
    while True:
        link = cuts[index_at(starts, place)][2]
        if link is None:
            return path
        if is_telling(link):
            note = step_part(link.step, place - link.first, 1)
            return note if path is None else step_joined(step_joined(step_back(path), note), path)
        step, place = _step_over(link, place)
        path = step if path is None else step_joined(step, path)


def _step_over(link, place):
    """The step to the tie that leads to this place from far to the left, and that place there."""
    if link.backward:
        source = link.first + link.end - 1 - place
        return step_part(link.step, source - link.first, 1), source
    shift = link.second - link.first
    many = (place - link.second) // shift + 1
    source = place - many * shift
    return step_part(step_times(link.step, many), source - link.first, 1), source


def _written(book, last):
    """The lines up to a step."""
    numbers = {}
    ties = []
    lines = []
    for step in steps_up_to(last):
        reason = (step.word, *[numbers[source] for source in step.sources], *step.numbers)
        numbers[step] = len(lines)
        ties.append(_tie_by(book, ties, reason))
        lines.append((ties[-1], reason))
    return tuple(lines)


def _are_lines(book, value):
    """Whether a value is one or more lines, each of them right."""
    if not isinstance(value, tuple) or len(value) == 0:
        return False
    ties = []
    for line in value:
        if not isinstance(line, tuple) or len(line) != 2 or not isinstance(line[0], Tie):
            return False
        if not _is_reason(line[1]) or _tie_told(book, ties, line[1]) != line[0]:
            return False
        ties.append(line[0])
    return True


def _is_reason(value):
    """Whether a value has the form of a reason, whatever it tells."""
    if not isinstance(value, tuple) or len(value) == 0 or not isinstance(value[0], str):
        return False
    numbers = value[1:]
    return len(numbers) == _NUMBERS.get(value[0], 0) > 0 and all([is_from(number, 0) for number in numbers])


def _tie_told(book, ties, reason):
    """The tie that a reason tells, the ties of the lines ahead of it being these; None if it tells none."""
    word, numbers = reason[0], reason[1:]
    ahead = {"told": [len(book.ties)], "note": [len(book.notes)], "joined": [len(ties), len(ties)]}
    limits = ahead.get(word, [len(ties)])
    if any([number >= limit for number, limit in zip(numbers, limits)]):
        return None
    try:
        return _tie_by(book, ties, reason)
    except (NoJoint, BadNumber, BadPart):
        return None


def _tie_by(book, ties, reason):
    """The tie by a reason, the numbers of which are those of lines and of what the book tells."""
    word, number = reason[0], reason[1]
    if word == "told":
        return book.ties[number]
    if word == "note":
        place, note = book.notes[number]
        return _tie_of_note(place, note)
    tie = ties[number]
    if word == "back":
        return ~tie
    if word == "joined":
        return tie >> ties[reason[2]]
    if word == "times":
        return tie * reason[2]
    return tie.part(reason[2], reason[3])
