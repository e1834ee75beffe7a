"""Tallies: how many of the first places of a melody hang on one of its new places, or are told."""

from turnedtunes.pieces import index_at, starts_of


class Tally:
    """Counts the places that hang on one new place; those that are told, if there is none.

    Two numbers are counted at once: how many places there are, up or down, and
    how many more of them are up than down. So a copy that is turned upside
    down only changes the sign of the second number.
    """

    def __init__(self, pieces, least=None):
        self.pieces = pieces
        self.starts = starts_of(pieces)
        self.least = least
        # What is counted below a place, of all places that were asked for.
        self.known = {0: (0, 0)}
        for at, piece in enumerate(pieces):
            if piece[0] == "copy":
                self._counted(_anchor_of(piece))
            self._counted(self.starts[at + 1])

    def all_below(self, place):
        """How many of the places below this one are counted."""
        return self._counted(place)[0]

    def ways_below(self, place):
        """(up, down): how many of the places below this one are counted, by their ways."""
        found, more = self._counted(place)
        return (found + more) // 2, (found - more) // 2

    def _counted(self, place):
        # A copy counts what it copies: so there is always just one place further
        # to the left to ask for, until one is known.
        path = []
        while place not in self.known:
            found, more, factor, turn, source = self._told_by(place)
            path.append((place, found, more, factor, turn))
            place = source
        below = self.known[place]
        for asked, found, more, factor, turn in path[::-1]:
            below = (found + factor * below[0], more + turn * below[1])
            self.known[asked] = below
        return below

    def _told_by(self, place):
        """What is counted below a place: two numbers, and those below another place, times two factors."""
        at = index_at(self.starts, place - 1)
        piece, start = self.pieces[at], self.starts[at]
        found, more = self.known[start]
        if piece[0] != "copy":
            own = self._own(piece, start, place)
            return found + own, more + own, 0, 0, 0
        all_ahead, more_ahead = self.known[_anchor_of(piece)]
        sign = -1 if piece[4] else 1
        if piece[5]:
            return found + all_ahead, more + sign * more_ahead, -1, -sign, piece[1] + piece[2] + start - place
        rows, rest = divmod(place - start, start - piece[1])
        # Going down, each row is upside down to the one ahead of it.
        signs = rows if sign == 1 else -(rows % 2)
        turn = sign if rows % 2 == 0 else 1
        all_here = found + rows * (found - all_ahead) - all_ahead
        more_here = more + signs * (more - more_ahead) - turn * more_ahead
        return all_here, more_here, 1, turn, piece[1] + rest

    def _own(self, piece, start, place):
        """How many places of a piece that is no copy are counted below a place of it."""
        if self.least is None:
            return place - start if piece[0] == "notes" else 0
        return 1 if piece[0] == "new" and start <= self.least < place else 0


def _anchor_of(piece):
    """The place from which a copy counts: to the right of it, or, if it is backward, to the left."""
    return piece[1] + piece[2] if piece[5] else piece[1]
