"""Written forms: strings of one line or two that tell a field, and something of it."""

from turnpowers.basics import without_noughts
from turnpowers.books import Book
from turnpowers.checks import MOST_SOME, MOST_TURNER, are_some_of
from turnpowers.errors import InvalidSort, InvalidValue
from turnpowers.fields import Field
from turnpowers.spaces import Space

SORTS = ("field", "elements", "turner", "space", "book")


def sorts():
    """The list of the words of the sorts."""
    return list(SORTS)


def check_sort(value):
    """InvalidSort unless the word of a sort."""
    if not isinstance(value, str) or value not in SORTS:
        raise InvalidSort(value)


def is_row_over(value, most):
    """Whether any value is a tuple of a Field and of a list of at most so many of its elements."""
    if not isinstance(value, tuple) or len(value) != 2 or not isinstance(value[0], Field):
        return False
    return are_some_of(value[0], value[1], most)


def is_of_sort(sort, value):
    """Whether any value is one of this sort."""
    check_sort(sort)
    match sort:
        case "field":
            return isinstance(value, Field)
        case "space":
            return isinstance(value, Space)
        case "book":
            return isinstance(value, Book)
        case "turner":
            return is_row_over(value, MOST_TURNER)
        case _:
            return is_row_over(value, MOST_SOME)


def line_of(word, counts):
    """The line of the word and of the COUNTS behind it."""
    return " ".join([word] + [str(count) for count in counts]) + "\n"


def second_line(sort, value):
    """What is written of a value of the sort behind its field."""
    match sort:
        case "field":
            return ""
        case "space":
            return line_of(sort, value.steps())
        case "book":
            return line_of(sort, [value.many] + value.points())
        case "turner":
            return line_of(sort, without_noughts(value[1]))
        case _:
            return line_of(sort, value[1])


def field_of(sort, value):
    """The field of a value of the sort."""
    if sort == "field":
        return value
    if sort in ("space", "book"):
        return value.field()
    return value[0]


def written(sort, value):
    """The written form of a value of this sort."""
    if not is_of_sort(sort, value):
        raise InvalidValue(value)
    field = field_of(sort, value)
    return line_of("field", [field.prime] + field.modulus()) + second_line(sort, value)
