"""Which values are integers, and how integers are written in texts."""

GREATEST = 10 ** 30

# Python's own int and str refuse integers of more than 4300 digits, so they
# are given so many digits at a time.
_DIGITS = 64
_CHUNK = 10 ** 64


def is_whole(value):
    """Whether a value is an integer; a bool is none."""
    return isinstance(value, int) and not isinstance(value, bool)


def is_from(value, least):
    """Whether a value is an integer from least on."""
    return is_whole(value) and value >= least


def is_between(value, least, greatest):
    """Whether a value is an integer from least to greatest."""
    return is_from(value, least) and value <= greatest


def written(number):
    """An integer as Python writes it."""
    if number < 0:
        return f"-{written(-number)}"
    rest = number
    chunks = []
    while rest >= _CHUNK:
        chunks.append(str(rest % _CHUNK).zfill(_DIGITS))
        rest = rest // _CHUNK
    chunks.append(str(rest))
    return "".join(chunks[::-1])


def number_in(word):
    """The integer that Python writes as this word; None if there is none."""
    digits = word[1:] if word.startswith("-") else word
    if not digits.isascii() or not digits.isdigit():
        return None
    if digits.startswith("0") and word != "0":
        return None
    number = _number_of(digits)
    return number if digits == word else -number


def _number_of(digits):
    head = len(digits) % _DIGITS
    number = int("0" + digits[:head])
    for at in range(head, len(digits), _DIGITS):
        number = number * _CHUNK + int(digits[at:at + _DIGITS])
    return number
