"""Links: ties in the form in which they are solved, each with the step that leads to it."""

from turnedtunes.leads import led_back, led_often, led_on
from turnedtunes.steps import step_back, step_joined, step_noted, step_part, step_times, step_told


class Link:
    """A tie by its values. A settled one leads to the right, or tells the notes of one part."""

    def __init__(self, first, second, length, lead, backward, step):
        self.first = first
        self.second = second
        self.length = length
        self.end = second + length
        self.lead = lead
        self.backward = backward and length > 1
        self.step = step


def link_of(tie, step):
    """The link that says what a tie says."""
    return Link(tie.first, tie.second, tie.length, (tie.amount, tie.down), tie.backward, step)


def links_of_book(book):
    """The links of all that a book tells."""
    ties = [link_of(tie, step_told(number)) for number, tie in enumerate(book.ties)]
    notes = [Link(place, place, 1, (2 * note, True), False, step_noted(number))
             for number, (place, note) in enumerate(book.notes)]
    return [*ties, *notes]


def is_telling(link):
    """Whether a settled link tells notes: it says that its part upside down is that part."""
    return link.first == link.second


def part_of_link(link, start, length):
    """The link of so many places of the first part from first + start on."""
    first = link.first + start
    second = link.second + (link.length - start - length if link.backward else start)
    return Link(first, second, length, link.lead, link.backward, step_part(link.step, start, length))


def settled(link):
    """(links, None): settled links that say the same; or ([], step): the step to a tie that cannot be."""
    if link.second < link.first:
        link = _turned(link)
    if link.first + link.length <= link.second:
        return [link], None
    return _settled_backward(link) if link.backward else _settled_straight(link)


def _turned(link):
    return Link(link.second, link.first, link.length, led_back(link.lead), link.backward, step_back(link.step))


def _settled_straight(link):
    amount, down = link.lead
    if link.first < link.second or (down and amount % 2 == 0):
        return [link], None
    # Up by another amount than 0, or down by an odd one, a part cannot be itself.
    return [], (link.step if amount != 0 else None)


def _settled_backward(link):
    """Of a backward link whose parts overlap: its first half says all, but for the place in the middle."""
    amount, down = link.lead
    if not down and amount != 0:
        return [], step_times(link.step, 2)
    total = link.first + link.end - 1
    half = part_of_link(link, 0, (total + 1) // 2 - link.first)
    if not down or total % 2 == 1:
        return [half], None
    middle = part_of_link(link, total // 2 - link.first, 1)
    return ([half, middle], None) if amount % 2 == 0 else ([], middle.step)


def shortened(link, end):
    """A settled link without the places of its second part from end on."""
    many = end - link.second
    return part_of_link(link, link.length - many if link.backward else 0, many)


def pulled(link, over):
    """What a link says together with one over it, said without the last place of both.

    Both are settled and end at the same place; the link over it begins no further to the right.
    """
    if not is_telling(over):
        return _pulled_away(link, over)
    lead = led_on(link.lead, over.lead)
    step = step_joined(link.step, over.step)
    if not is_telling(link):
        # What its second part is told to be, the first part is told to be, too.
        lead = led_on(lead, led_back(link.lead))
        step = step_joined(step, step_back(link.step))
    return Link(link.first, link.first, link.length, lead, False, step)


def _pulled_away(link, over):
    """The second part of a link exchanged for what leads to it, as far to the left as can be."""
    second, many = _source(link, over)
    lead = led_often(over.lead, many)
    step = step_times(over.step, many)
    new_lead = led_on(link.lead, led_back(lead))
    new_step = step_joined(link.step, step_back(step))
    if is_telling(link):
        return Link(second, second, link.length, led_on(lead, new_lead), False, step_joined(step, new_step))
    return Link(link.first, second, link.length, new_lead, link.backward != over.backward, new_step)


def _source(link, over):
    """The first place of what leads to the second part of a link, and by how many steps."""
    if over.backward:
        return over.first, 1
    shift = over.second - over.first
    many = (link.second - over.second) // shift + 1
    return link.second - many * shift, many
