"""Turn sums taken apart in those of degree 1."""

from turnpowers.division import divided_in
from turnpowers.errors import TooMany
from turnpowers.roots import told_not_nought

MOST_DEGREE = 4
MOST_WAYS = 400
MOST_WHOLE = 3


def rest_in(field, turner, one):
    """What the division by t - one leaves innerly: the sum of point 61."""
    total, factor = 0, 1
    for part in turner:
        total = field.added(total, field.multiplied(part, factor))
        factor = field.multiplied(field.turned(factor, 1), one)
    return total


def rest_out(field, turner, one):
    """What the division by t - one leaves outerly."""
    # If f is t - a of g, and a rest, each number of f, from the head on, and a times the number of g there make the
    # number of g at the position ahead, turned once; at last they make the rest.
    left = 0
    for part in reversed(list(turner)):
        left = field.added(part, field.multiplied(one, field.turned(left, -1)))
    return left


def inner_ones(field, turner):
    """The sorted list of the elements for which the turn sum is some other one of t less the element."""
    row = told_not_nought(field, turner)
    return [one for one in range(field.size) if rest_in(field, row, one) == 0]


def outer_ones(field, turner):
    """The sorted list of the elements for which the turn sum is t less the element of some other one."""
    row = told_not_nought(field, turner)
    return [one for one in range(field.size) if rest_out(field, row, one) == 0]


def taken_apart(field, parts):
    """The lists of last elements of ways for each quotient by them, led on by one element ahead of each list."""
    found = {}
    for key in parts:
        for one in inner_ones(field, key):
            quotient, _ = divided_in(field, key, [field.taken(0, one), 1])
            found.setdefault(tuple(quotient), []).extend([[one] + lasts for lasts in parts[key]])
    return found


def all_ways(field, turner):
    """All ways of a told turn sum that is not nought."""
    # Many ways come to the same quotients, so these are taken apart just once.
    parts = {tuple(turner): [[]]}
    for _ in range(len(turner) - 1):
        parts = taken_apart(field, parts)
    return [way for key in parts for way in parts[key]]


def ways(field, turner):
    """The sorted list of all ways of the turn sum."""
    row = told_not_nought(field, turner)
    if len(row) - 1 > MOST_DEGREE:
        raise TooMany("degree", MOST_DEGREE)
    found = sorted(all_ways(field, row))
    if len(found) > MOST_WAYS:
        raise TooMany("ways", MOST_WAYS)
    return found


def is_whole(field, turner):
    """Whether the turn sum is of degree 1 or more, and not one of two such put into one another."""
    row = told_not_nought(field, turner)
    if len(row) - 1 > MOST_WHOLE:
        raise TooMany("degree", MOST_WHOLE)
    if len(row) <= 2:
        return len(row) == 2
    # Of a degree up to 3, one of two parts is of degree 1.
    return inner_ones(field, row) == [] and outer_ones(field, row) == []
