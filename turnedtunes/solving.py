"""Solving: all that links say of so many places, told stretch by stretch."""

from heapq import heappop, heappush

from turnedtunes.errors import Clash
from turnedtunes.links import links_of_book, pulled, settled, shortened


def cuts_of(size, links):
    """(cuts, None), or ([], step): the step to a tie that cannot be.

    Cuts are (start, end, link), ascending: the link leads to all these places
    from lesser ones, or tells them; it is None if they are free.
    """
    # The places are taken away from the right. Where several links lead to the
    # last place, the longest one stays, and the others are told through it:
    # each by as many steps at once as it can go. So nothing goes place by place.
    queue = []
    known = []
    cuts = []
    end = size
    coming = links
    while end > 0:
        for link in coming:
            found, clash = settled(link)
            if clash is not None:
                return [], clash
            for one in found:
                heappush(queue, (-one.end, one.second, one.second - one.first, len(known)))
                known.append(one)
        coming = []
        start = _greatest_end(queue)
        if start < end:
            cuts.append((start, end, None))
            end = start
            continue
        entry = heappop(queue)
        over = known[entry[3]]
        start = max(over.second, _greatest_end(queue))
        if start == end:
            coming = [pulled(known[heappop(queue)[3]], over)]
            heappush(queue, entry)
            continue
        cuts.append((start, end, over))
        if over.second < start:
            coming = [shortened(over, start)]
        end = start
    return cuts[::-1], None


def _greatest_end(queue):
    return -queue[0][0] if queue else 0


def free_in(cuts):
    """How many places are free by these cuts."""
    return sum([end - start for start, end, link in cuts if link is None])


def free_by(size, links):
    """How many of so many places are free by the links; None if these cannot all be true.

    Links that can be true make a further one sure just if with it as many places are free.
    """
    cuts, clash = cuts_of(size, links)
    return free_in(cuts) if clash is None else None


def solved(book):
    """The cuts of a book that some melody keeps."""
    cuts, clash = cuts_of(book.size, links_of_book(book))
    if clash is not None:
        raise Clash(book)
    return cuts
