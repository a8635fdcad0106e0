"""Turn sums over a field: told, reckoned with, put into one another, and their worths."""

from turnpowers.basics import without_noughts
from turnpowers.checks import MOST_TURNER, are_some_of, check_field, check_one, check_turner
from turnpowers.errors import TooMany

MOST_DEGREE = 12


def is_turner(field, value):
    """Whether any value is a turn sum over the field."""
    check_field(field)
    return are_some_of(field, value, MOST_TURNER)


def check_turners(field, turner, other):
    """The errors of the parameters field, turner, other."""
    check_field(field)
    check_turner(field, turner)
    check_turner(field, other)


def told(field, turner):
    """The turn sum without noughts at its end."""
    check_field(field)
    check_turner(field, turner)
    return without_noughts(turner)


def degree(field, turner):
    """The position of the head; -1 of nought."""
    return len(told(field, turner)) - 1


def filled(turner, many):
    """The turn sum with noughts at its end, so that it has at least so many numbers."""
    return list(turner) + [0] * (many - len(turner))


def pairs_of(turner, other):
    """The pairs of the numbers of both turn sums at each position."""
    many = max(len(turner), len(other))
    return list(zip(filled(turner, many), filled(other, many)))


def sum_of(field, turner, other):
    """The sum of both turn sums."""
    check_turners(field, turner, other)
    return without_noughts([field.added(one, beside) for one, beside in pairs_of(turner, other)])


def less(field, turner, other):
    """The turn sum, less the other one."""
    check_turners(field, turner, other)
    return without_noughts([field.taken(one, beside) for one, beside in pairs_of(turner, other)])


def scaled(field, turner, one):
    """One times the turn sum."""
    check_field(field)
    check_turner(field, turner)
    check_one(field, one)
    return without_noughts([field.multiplied(one, part) for part in turner])


def put_together(field, outer, inner):
    """The outer turn sum of the inner one; both are told, and neither is nought."""
    sums = [0] * (len(outer) + len(inner) - 1)
    for at, one in enumerate(outer):
        for beside, part in enumerate(inner):
            product = field.multiplied(one, field.turned(part, at))
            sums[at + beside] = field.added(sums[at + beside], product)
    return sums


def put(field, turner, other):
    """The turn sum of the other one."""
    check_turners(field, turner, other)
    outer, inner = without_noughts(turner), without_noughts(other)
    if outer == [] or inner == []:
        return []
    if len(outer) - 1 + len(inner) - 1 > MOST_DEGREE:
        raise TooMany("degree", MOST_DEGREE)
    return put_together(field, outer, inner)


def worth(field, turner, one):
    """What the turn sum comes to at the element."""
    check_field(field)
    check_turner(field, turner)
    check_one(field, one)
    total = 0
    for at, part in enumerate(turner):
        total = field.added(total, field.multiplied(part, field.turned(one, at)))
    return total
