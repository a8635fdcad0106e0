"""The errors that belong to parameters of one name everywhere, and what elements and lists of them are."""

from turnpowers.basics import are_below, is_below
from turnpowers.errors import InvalidElement, InvalidElements, InvalidField, InvalidMany, InvalidTurner
from turnpowers.fields import Field

MOST_SOME = 12
MOST_TURNER = 13


def is_one_of(field, value):
    """Whether any value is an element of the field."""
    return is_below(value, field.size)


def are_some_of(field, value, most):
    """Whether any value is a list of at most so many elements of the field."""
    return are_below(value, field.size) and len(value) <= most


def check_field(value):
    """InvalidField unless a Field."""
    if not isinstance(value, Field):
        raise InvalidField(value)


def check_one(field, value):
    """InvalidElement unless an element of the field."""
    if not is_one_of(field, value):
        raise InvalidElement(value)


def check_some(field, value):
    """InvalidElements unless a list of 0 to 12 elements of the field."""
    if not are_some_of(field, value, MOST_SOME):
        raise InvalidElements(value)


def check_turner(field, value):
    """InvalidTurner unless a turn sum over the field."""
    if not are_some_of(field, value, MOST_TURNER):
        raise InvalidTurner(value)


def check_many(value, most):
    """InvalidMany unless a COUNT of at most so many."""
    if not is_below(value, most + 1):
        raise InvalidMany(value)
