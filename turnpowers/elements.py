"""Elements of a field: reckoned with, turned, and mixed by base figures."""

from turnpowers.basics import are_below
from turnpowers.checks import check_field, check_many, check_one, check_some, is_one_of
from turnpowers.errors import DividedByNought, InvalidFigures
from turnpowers.frees import mixed, steps_of

MOST_POWER = 1000
MOST_TURNS = 24


def is_element(field, value):
    """Whether any value is an element of the field."""
    check_field(field)
    return is_one_of(field, value)


def check_two(field, one, other):
    """The errors of the parameters field, one, other."""
    check_field(field)
    check_one(field, one)
    check_one(field, other)


def plus(field, one, other):
    """The sum of both elements."""
    check_two(field, one, other)
    return field.added(one, other)


def minus(field, one, other):
    """The one, less the other one."""
    check_two(field, one, other)
    return field.taken(one, other)


def times(field, one, other):
    """The product of both elements."""
    check_two(field, one, other)
    return field.multiplied(one, other)


def over(field, one, other):
    """The one divided by the other one."""
    check_two(field, one, other)
    if other == 0:
        raise DividedByNought()
    return field.divided(one, other)


def check_one_many(field, one, many, most):
    """The errors of the parameters field, one, many."""
    check_field(field)
    check_one(field, one)
    check_many(many, most)


def power(field, one, many):
    """The power many of the element, from 0 to 1000."""
    check_one_many(field, one, many, MOST_POWER)
    return field.raised(one, many)


def turned(field, one, many):
    """The element, turned so many times, from 0 to 24."""
    check_one_many(field, one, many, MOST_TURNS)
    return field.turned(one, many)


def turned_back(field, one, many):
    """The element that, turned so many times, from 0 to 24, is the one."""
    check_one_many(field, one, many, MOST_TURNS)
    return field.turned(one, -many)


def all_turned(field, one):
    """The list of the element turned 0, 1, .. times, until it would be itself again."""
    check_field(field)
    check_one(field, one)
    return [field.turned(one, many) for many in range(field.turns)]


def norm(field, one):
    """The product of the element turned 0, 1, .. times: a base figure."""
    product = 1
    for factor in all_turned(field, one):
        product = field.multiplied(product, factor)
    return product


def trace(field, one):
    """The sum of the element turned 0, 1, .. times: a base figure."""
    total = 0
    for part in all_turned(field, one):
        total = field.added(total, part)
    return total


def figures(field, one):
    """The list of the figures of the element."""
    check_field(field)
    check_one(field, one)
    return field.figures_of(one)


def check_figures(field, value, many):
    """InvalidFigures unless a list of so many base figures."""
    if not are_below(value, field.prime) or len(value) != many:
        raise InvalidFigures(value)


def by_figures(field, value):
    """The element with these figures."""
    check_field(field)
    check_figures(field, value, field.turns)
    return field.with_figures(value)


def rank(field, some):
    """How many of some elements, at most, are free."""
    check_field(field)
    check_some(field, some)
    return len(steps_of(field, some))


def are_free(field, some):
    """Whether some elements are all free."""
    return rank(field, some) == len(some)


def mixture(field, some, value):
    """The sum of some elements, each times its figure in the value."""
    check_field(field)
    check_some(field, some)
    check_figures(field, value, len(some))
    return mixed(field, some, value)
