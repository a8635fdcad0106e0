"""The roots of turn sums, and the turn sums of spaces."""

from turnpowers.errors import NoughtTurner
from turnpowers.frees import steps_of
from turnpowers.spaces import Space, check_space
from turnpowers.turners import put, told, worth


def lengthened(field, turner, one):
    """The turn sum of the space that has this one for its own, and an element that this one is not 0 at."""
    factor = field.raised(worth(field, turner, one), field.prime - 1)
    return put(field, [field.taken(0, factor), 1], turner)


def space_turner(space):
    """The turn sum with the head 1 of which the space is all roots, and the dimension the degree."""
    check_space(space)
    found = [1]
    for step in space.steps():
        found = lengthened(space.field(), found, step)
    return found


def told_not_nought(field, turner):
    """The turn sum, told, behind the errors of the parameters and that of nought."""
    found = told(field, turner)
    if found == []:
        raise NoughtTurner()
    return found


def roots(field, turner):
    """The Space of all elements at which the worth of the turn sum is 0."""
    row = told_not_nought(field, turner)
    return Space(field, steps_of(field, [one for one in range(field.size) if worth(field, row, one) == 0]))


def is_full(field, turner):
    """Whether the roots of the turn sum have as many dimensions as its degree."""
    row = told_not_nought(field, turner)
    return roots(field, row).dimension == len(row) - 1
