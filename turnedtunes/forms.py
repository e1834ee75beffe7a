"""Which lines of texts have which form, and what they tell."""

from turnedtunes.errors import BadText
from turnedtunes.integers import GREATEST, is_between, number_in
from turnedtunes.ties import Tie, is_tie_within


def numbers_behind(line, word, many):
    """So many integers that stand behind a word, as all there is in a line; None if they do not."""
    words = line.split(" ")
    if len(words) != many + 1 or words[0] != word:
        return None
    numbers = [number_in(one) for one in words[1:]]
    return None if None in numbers else tuple(numbers)


def tie_behind(line, word):
    """The tie the text of which stands behind a word in a line; None if none does."""
    first, _, text = line.partition(" ")
    if first != word:
        return None
    try:
        tie = Tie.of(text)
    except BadText:
        return None
    return tie


def size_in(line):
    """The size that a line tells; None if it tells none."""
    numbers = numbers_behind(line, "size", 1)
    return numbers[0] if numbers is not None and is_between(numbers[0], 1, GREATEST) else None


def tie_in(line, size):
    """The tie within the size that a line tells; None if it tells none."""
    tie = tie_behind(line, "tie")
    return tie if is_tie_within(tie, size) else None


def note_in(line, size):
    """The (place, note) within the size that a line tells; None if it tells none."""
    numbers = numbers_behind(line, "note", 2)
    return numbers if numbers is not None and is_between(numbers[0], 0, size - 1) else None
