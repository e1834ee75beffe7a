"""Leads: a pair (amount, down) tells what a note becomes, amount + it, or amount - it if it goes down."""

STILL = (0, False)


def led_by(lead, note):
    """What a lead makes of a note."""
    amount, down = lead
    return amount - note if down else amount + note


def led_on(lead, other):
    """What is made of a note by a lead, and then by another one."""
    return led_by(other, lead[0]), lead[1] != other[1]


def led_back(lead):
    """The lead that makes a note again of what this one made of it."""
    amount, down = lead
    return (amount, True) if down else (-amount, False)


def led_often(lead, many):
    """What is made of a note by a lead, so many times."""
    amount, down = lead
    if not down:
        return many * amount, False
    # Upside down twice, a note is itself again.
    return (amount, True) if many % 2 == 1 else STILL


def word_of(lead):
    """How results call the way of a lead."""
    return "down" if lead[1] else "up"
