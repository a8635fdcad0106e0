"""Spaces: lots of elements of a field that have 0 and the sums of any two."""

from turnpowers.checks import check_field, check_one, check_some
from turnpowers.errors import InvalidSpace, UnlikeFields
from turnpowers.frees import left_by, steps_of, widened


class Space:
    """The least space of a field that holds some elements."""

    def __init__(self, field, some):
        check_field(field)
        check_some(field, some)
        self._field = field
        self._steps = steps_of(field, some)

    @property
    def dimension(self):
        """How many of its elements are free at most."""
        return len(self._steps)

    def steps(self):
        """The list of its steps."""
        return list(self._steps)

    def field(self):
        """The field of its elements."""
        return self._field

    def has(self, one):
        """Whether it holds an element."""
        check_one(self._field, one)
        return left_by(self._field, self._steps, one) == 0

    def listed(self):
        """The sorted list of all its elements."""
        found = [0]
        for step in self._steps:
            found = widened(self._field, found, step)
        return sorted(found)

    def __eq__(self, other):
        return isinstance(other, Space) and self._field == other._field and self._steps == other._steps

    def __repr__(self):
        return f"Space({self._field!r}, {self._steps!r})"


def check_space(value):
    """InvalidSpace unless a Space."""
    if not isinstance(value, Space):
        raise InvalidSpace(value)


def check_spaces(space, other):
    """The errors of the parameters space, other, and of their fields."""
    check_space(space)
    check_space(other)
    if space.field() != other.field():
        raise UnlikeFields()


def meet(space, other):
    """The space of all elements that both hold."""
    check_spaces(space, other)
    field = space.field()
    return Space(field, steps_of(field, [one for one in space.listed() if other.has(one)]))


def join(space, other):
    """The least space that holds both."""
    check_spaces(space, other)
    field = space.field()
    return Space(field, steps_of(field, space.steps() + other.steps()))


def is_within(space, other):
    """Whether the other space holds all elements of the space."""
    check_spaces(space, other)
    return all([other.has(step) for step in space.steps()])
