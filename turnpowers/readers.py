"""Written forms read: what a string tells, or its first wrong line."""

from turnpowers.books import Book
from turnpowers.counts import counts_in
from turnpowers.errors import InvalidText, LimitError, TurnError
from turnpowers.fields import Field
from turnpowers.spaces import Space
from turnpowers.texts import is_of_sort, sorts, written

# No element, no figure and no many has more digits.
MOST_DIGITS = 3


def field_in(line):
    """The field that the first line tells; None unless it tells one."""
    words = line.split(" ")
    counts = counts_in(words[1:], MOST_DIGITS)
    if words[0] != "field" or counts is None or counts == []:
        return None
    try:
        return Field(counts[0], counts[1:])
    except (TurnError, LimitError):
        return None


def made_of(field, sort, counts):
    """The value of the sort that is made of these COUNTS, whether it is written with just these or not."""
    match sort:
        case "space":
            return Space(field, counts)
        case "book":
            return Book(field, counts[1:], counts[0])
        case _:
            return field, counts


def value_of(field, sort, counts):
    """The value of the sort that is made of these COUNTS; None if there is none."""
    if sort == "book" and counts == []:
        return None
    try:
        return made_of(field, sort, counts)
    except TurnError:
        return None


def told_in(field, line):
    """The tuple of the sort and the value that the second line tells of the field; None unless it tells one."""
    words = line.split(" ")
    sort, counts = words[0], counts_in(words[1:], MOST_DIGITS)
    if sort == "field" or sort not in sorts() or counts is None:
        return None
    value = value_of(field, sort, counts)
    # A turn sum with a 0 at its end, or elements that are no steps, would be written in another way.
    if not is_of_sort(sort, value) or written(sort, value) != written("field", field) + line + "\n":
        return None
    return sort, value


def read(text):
    """The tuple of the sort and the value that has this written form."""
    if not isinstance(text, str):
        raise InvalidText(0)
    # Behind the last line feed there is one string more, which is empty in a written form.
    lines = text.split("\n")
    field = field_in(lines[0])
    if field is None or len(lines) == 1:
        raise InvalidText(1)
    if lines[1:] == [""]:
        return "field", field
    found = told_in(field, lines[1])
    if found is None or len(lines) == 2:
        raise InvalidText(2)
    if lines[2:] != [""]:
        raise InvalidText(3)
    return found
