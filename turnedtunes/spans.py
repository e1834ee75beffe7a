"""Spans: how far the notes that hang on a new place of a melody lie from its own.

A span is (ups, downs): ups are the least and the greatest c of all places that
hang up by c, downs those of all that hang down; None if none hangs down.
"""

from turnedtunes.leads import led_often
from turnedtunes.pieces import index_at, starts_of

_ALONE = ((0, 0), None)


def spans_of(pieces):
    """(spans, notes): (first, end, ups, downs) of stretches of new places, and the ends of all certain notes.

    All places of such a stretch have the same span. Notes is None if no note is certain.
    """
    starts = starts_of(pieces)
    marks = _marks(pieces, starts)
    spans = []
    notes = None
    for number, span in enumerate(_values(pieces, starts, marks)):
        piece = pieces[index_at(starts, marks[number])]
        if piece[0] == "new":
            spans.append((marks[number], marks[number + 1], *span))
        if piece[0] == "notes":
            notes = _wider(notes, _notes_by(span, piece[2]))
    return tuple(spans), notes


def _marks(pieces, starts):
    """Places, ascending: from each of them up to the next one, all places have the same span."""
    # Where a copy changes what it does, or where what hangs on its places
    # changes, what it copies is cut, too: so cuts go on to the left.
    known = {place: True for place in starts}
    waiting = list(starts)
    while waiting:
        place = waiting.pop()
        for source in _sources_of_mark(pieces, starts, place):
            if source not in known:
                known[source] = True
                waiting.append(source)
    return sorted(list(known))


def _sources_of_mark(pieces, starts, place):
    """Where a place is copied from as the beginning, and as the end, of a stretch."""
    at = index_at(starts, place)
    found = _copied_from(pieces[at], starts[at], place)
    if place == starts[at] and at > 0:
        found = found + _copied_from(pieces[at - 1], starts[at - 1], place)
    return found


def _copied_from(piece, start, place):
    if piece[0] != "copy":
        return []
    if piece[5]:
        return [piece[1] + piece[2] - (place - start)]
    return [piece[1] + (place - start) % (start - piece[1])]


def _values(pieces, starts, marks):
    """The span of each stretch between two marks."""
    values = [_ALONE] * (len(marks) - 1)
    # From the right: what hangs on a copy hangs on what it copies.
    for number in reversed(range(len(marks) - 1)):
        at = index_at(starts, marks[number])
        if pieces[at][0] != "copy":
            continue
        for first, end, lead in _copied(pieces[at], starts[at], marks[number], marks[number + 1]):
            coming = _led(values[number], lead)
            source = index_at(marks, first)
            while marks[source] < end:
                values[source] = _joined(values[source], coming)
                source = source + 1
    return values


def _copied(piece, start, first, end):
    """(first, end, lead) of all stretches that are copied to this one, or of enough of them."""
    lead = (piece[3], piece[4])
    if piece[5]:
        last = piece[1] + piece[2] + start
        return [(last - end, last - first, lead)]
    source = piece[1]
    row, ahead = divmod(first - start, start - source)
    last_row, behind = divmod(end - start, start - source)
    if row == last_row:
        return [(source + ahead, source + behind, led_often(lead, row + 1))]
    found = [(source + ahead, start, led_often(lead, row + 1)),
             (source, source + behind, led_often(lead, last_row + 1))]
    # Of the rows between, the first two and the last one lead furthest, up and down.
    for many in (row + 2, row + 3, last_row):
        if row + 1 < many <= last_row:
            found.append((source, start, led_often(lead, many)))
    return found


def _led(span, lead):
    """What hangs on the source of a lead, of what hangs on the place to which it leads."""
    ups, downs = span
    amount, down = lead
    ups = _moved(ups, amount)
    downs = _moved(downs, -amount)
    return (downs, ups) if down else (ups, downs)


def _moved(ends, amount):
    return None if ends is None else (ends[0] + amount, ends[1] + amount)


def _joined(one, other):
    return _wider(one[0], other[0]), _wider(one[1], other[1])


def _wider(one, other):
    """The least and the greatest number of both; None is no number."""
    if one is None or other is None:
        return other if one is None else one
    return min(one[0], other[0]), max(one[1], other[1])


def _notes_by(span, note):
    """The least and the greatest note that come of a certain one."""
    ups, downs = span
    turned = None if downs is None else (downs[0] - note, downs[1] - note)
    return _wider(_moved(ups, note), turned)
