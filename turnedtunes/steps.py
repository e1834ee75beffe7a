"""Steps: how a tie is got from the ties and notes of a book, kept apart from the ties themselves."""


class Step:
    """The word of a reason, the steps that it starts from, and its other numbers."""

    def __init__(self, word, sources, numbers):
        self.word = word
        self.sources = sources
        self.numbers = numbers
        # In sequence by depth, every step stands behind those that it starts from.
        self.depth = 1 + max([source.depth for source in sources], default=0)


def step_told(number):
    """The step to the tie of the book that has this number."""
    return Step("told", (), (number,))


def step_noted(number):
    """The step to the tie that says what the note with this number does."""
    return Step("note", (), (number,))


def step_given():
    """The step to what is only compared, so that no lines are written of it."""
    return Step("given", (), ())


def step_back(step):
    return Step("back", (step,), ())


def step_joined(one, other):
    return Step("joined", (one, other), ())


def step_times(step, many):
    return step if many == 1 else Step("times", (step,), (many,))


def step_part(step, start, length):
    return Step("part", (step,), (start, length))


def steps_up_to(last):
    """A step and all steps that it needs, each behind those that it starts from."""
    found = {last: True}
    waiting = [last]
    while waiting:
        step = waiting.pop()
        for source in step.sources:
            if source not in found:
                found[source] = True
                waiting.append(source)
    return sorted(list(found), key=lambda one: one.depth)
