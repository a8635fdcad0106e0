"""The turn sum that has given worths at given points."""

from turnpowers.checks import are_some_of, check_field
from turnpowers.elements import are_free
from turnpowers.errors import InvalidElements, InvalidPoints
from turnpowers.roots import lengthened
from turnpowers.turners import scaled, sum_of, worth


def check_points(field, value):
    """InvalidPoints unless a list of free elements, one at least."""
    if not are_some_of(field, value, field.turns) or len(value) == 0 or not are_free(field, value):
        raise InvalidPoints(value)


def through(field, points, worths):
    """The turn sum of a degree below the number of the points that has these worths at them."""
    check_field(field)
    check_points(field, points)
    if not are_some_of(field, worths, len(points)) or len(worths) != len(points):
        raise InvalidElements(worths)
    # The beside one is 0 at all points that are done, and at no other: so its multiples change no worth but new ones.
    found, beside = [], [1]
    for point, wanted in zip(points, worths):
        lack = field.taken(wanted, worth(field, found, point))
        factor = field.divided(lack, worth(field, beside, point))
        found = sum_of(field, found, scaled(field, beside, factor))
        beside = lengthened(field, beside, point)
    return found
