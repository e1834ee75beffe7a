"""Pieces: what the places of a melody are, one stretch behind the other, as section 8 of the document lists it."""

from turnedtunes.leads import STILL, led_by, led_often, led_on, word_of
from turnedtunes.links import Link, is_telling
from turnedtunes.solving import free_by
from turnedtunes.steps import step_given


def pieces_of(cuts):
    """The pieces of a melody in general form, of the cuts of what is told of it."""
    return tuple([_piece_of(start, end, link) for start, end, link in cuts])


def _piece_of(start, end, link):
    length = end - start
    if link is None:
        return "new", length
    amount, down = link.lead
    if is_telling(link):
        return "notes", length, amount // 2
    if link.backward:
        return "copy", link.first + link.end - end, length, amount, down, True
    return "copy", start - (link.second - link.first), length, amount, down, False


def length_of(piece):
    """How many places a piece has."""
    return piece[2] if piece[0] == "copy" else piece[1]


def starts_of(pieces):
    """The first places of the pieces, and behind them how many places there are."""
    starts = [0]
    for piece in pieces:
        starts.append(starts[-1] + length_of(piece))
    return tuple(starts)


def new_ahead(pieces):
    """How many new places lie ahead of each piece, and behind these numbers how many there are."""
    many = [0]
    for piece in pieces:
        many.append(many[-1] + (piece[1] if piece[0] == "new" else 0))
    return tuple(many)


def new_stretches(pieces):
    """(first, length) of all stretches of new places that cannot be made longer, ascending."""
    found = []
    for start, piece in zip(starts_of(pieces), pieces):
        if piece[0] != "new":
            continue
        if found and found[-1][0] + found[-1][1] == start:
            first, length = found.pop()
            found.append((first, length + piece[1]))
        else:
            found.append((start, piece[1]))
    return tuple(found)


def index_at(starts, place):
    """The number of the piece in which a place lies."""
    low, high = 0, len(starts) - 1
    while high - low > 1:
        middle = (low + high) // 2
        if starts[middle] <= place:
            low = middle
        else:
            high = middle
    return low


def read(pieces, starts, place):
    """("told", note), or (word, q, c): the note of the place is that of the new place q, up or down by c."""
    lead = STILL
    while True:
        at = index_at(starts, place)
        piece = pieces[at]
        if piece[0] == "new":
            return word_of(lead), place, lead[0]
        if piece[0] == "notes":
            return "told", led_by(lead, piece[2])
        place, many = _source(piece, starts[at], place)
        lead = led_on(led_often((piece[3], piece[4]), many), lead)


def _source(piece, here, place):
    """Of which place ahead of a copy a place of it is a copy, and by how many steps."""
    if piece[5]:
        return piece[1] + here + piece[2] - 1 - place, 1
    shift = here - piece[1]
    # A copy that goes on into itself is left at once.
    many = (place - here) // shift + 1
    return place - many * shift, many


def links_of_pieces(pieces):
    """Links that say what the pieces say."""
    given = step_given()
    links = []
    for here, piece in zip(starts_of(pieces), pieces):
        if piece[0] == "notes":
            links.append(Link(here, here, piece[1], (2 * piece[2], True), False, given))
        if piece[0] == "copy":
            links.append(Link(piece[1], here, piece[2], (piece[3], piece[4]), piece[5], given))
    return links


def holds(pieces, links):
    """Whether all that the links say is true of the melody of these pieces, whatever its new places are."""
    return free_by(starts_of(pieces)[-1], [*links_of_pieces(pieces), *links]) == new_ahead(pieces)[-1]
