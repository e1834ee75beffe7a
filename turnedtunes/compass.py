"""How narrow a range can be in which a melody keeps a book, and what has room in a range."""

from turnedtunes.errors import BadBounds, NoRoom
from turnedtunes.integers import is_whole
from turnedtunes.leads import led_by
from turnedtunes.pieces import pieces_of, read, starts_of
from turnedtunes.places import check_place
from turnedtunes.solving import solved
from turnedtunes.spans import spans_of


def compass(book):
    """The least number by which the highest note lies above the lowest one."""
    spans, notes = spans_of(pieces_of(solved(book)))
    # What hangs on one place has a width by itself. Certain notes, and what
    # hangs both up and down on one place, also tell where the range lies.
    widths = [0]
    lows, highs = [], []
    if notes is not None:
        lows.append(notes[0])
        highs.append(notes[1])
    for _, _, ups, downs in spans:
        widths.append(ups[1] - ups[0])
        if downs is not None:
            widths.append(downs[1] - downs[0])
            lows.append((ups[0] + downs[0]) // 2)
            highs.append((ups[1] + downs[1] + 1) // 2)
    if lows:
        widths.append(max(highs) - min(lows))
    return max(widths)


def room(book, low, high):
    """(choices, places), ascending: so many free places can have so many notes, if all notes lie in a range."""
    _check_bounds(low, high)
    found = {}
    for first, end, least, greatest in _within(pieces_of(solved(book)), low, high):
        choices = greatest - least + 1
        found[choices] = found.get(choices, 0) + end - first
    return tuple(sorted(list(found.items())))


def reach(book, place, low, high):
    """(least, greatest) note of a place, if all notes lie in a range."""
    check_place(place, book.size)
    _check_bounds(low, high)
    pieces = pieces_of(solved(book))
    stretches = _within(pieces, low, high)
    found = read(pieces, starts_of(pieces), place)
    if found[0] == "told":
        return found[1], found[1]
    word, least, amount = found
    ends = [row[2:] for row in stretches if row[0] <= least < row[1]][0]
    notes = [led_by((amount, word == "down"), note) for note in ends]
    return min(notes), max(notes)


def _check_bounds(low, high):
    if not is_whole(low) or not is_whole(high) or low > high:
        raise BadBounds((low, high))


def _within(pieces, low, high):
    """(first, end, least, greatest) of stretches of new places, and of the notes that they can have in this range."""
    spans, notes = spans_of(pieces)
    if notes is not None and (notes[0] < low or notes[1] > high):
        raise NoRoom((low, high))
    stretches = []
    for first, end, ups, downs in spans:
        least, greatest = low - ups[0], high - ups[1]
        if downs is not None:
            least, greatest = max(least, downs[1] - high), min(greatest, downs[0] - low)
        if least > greatest:
            raise NoRoom((low, high))
        stretches.append((first, end, least, greatest))
    return stretches
