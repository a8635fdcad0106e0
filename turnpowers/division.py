"""Turn sums divided by one another from either side, their common parts, and joints."""

from turnpowers.errors import NoughtTurner
from turnpowers.turners import check_turners, less, put, scaled, sum_of, told


def alone_at(position, one):
    """The turn sum with this element at this position, and noughts ahead of it."""
    return [0] * position + [one]


def step_in(field, left, divisor):
    """The turn sum of one element that, of the divisor, has the degree and the head of what is left."""
    rise = len(left) - len(divisor)
    return alone_at(rise, field.divided(left[-1], field.turned(divisor[-1], rise)))


def step_out(field, left, divisor):
    """The turn sum of one element that the divisor is put of, to have the degree and the head of what is left."""
    rise = len(left) - len(divisor)
    return alone_at(rise, field.turned(field.divided(left[-1], divisor[-1]), 1 - len(divisor)))


def split_in(field, turner, divisor):
    """The quotient and the rest of the turn sum divided innerly by a told one that is not nought."""
    quotient, left = [], told(field, turner)
    while len(left) >= len(divisor):
        step = step_in(field, left, divisor)
        quotient = sum_of(field, quotient, step)
        left = less(field, left, put(field, step, divisor))
    return quotient, left


def split_out(field, turner, divisor):
    """The quotient and the rest of the turn sum divided outerly by a told one that is not nought."""
    quotient, left = [], told(field, turner)
    while len(left) >= len(divisor):
        step = step_out(field, left, divisor)
        quotient = sum_of(field, quotient, step)
        left = less(field, left, put(field, divisor, step))
    return quotient, left


def told_divisor(field, turner, other):
    """The other one, told, behind the errors of the parameters and that of a division by nought."""
    check_turners(field, turner, other)
    divisor = told(field, other)
    if divisor == []:
        raise NoughtTurner()
    return divisor


def divided_in(field, turner, other):
    """The tuple of the quotient and the rest of the turn sum divided innerly by the other one."""
    return split_in(field, turner, told_divisor(field, turner, other))


def divided_out(field, turner, other):
    """The tuple of the quotient and the rest of the turn sum divided outerly by the other one."""
    return split_out(field, turner, told_divisor(field, turner, other))


def is_inner(field, turner, other):
    """Whether the other one is inner to the turn sum."""
    _, left = divided_in(field, turner, other)
    return left == []


def last_part(field, turner, other, divide):
    """The last rest that is not nought if both are divided by one another in turn; nought of two noughts."""
    found, left = told(field, turner), told(field, other)
    while left != []:
        _, rest = divide(field, found, left)
        found, left = left, rest
    return found


def with_head_one(field, turner):
    """A told turn sum times an element, so that it has the head 1; nought of nought."""
    if turner == []:
        return []
    return scaled(field, turner, field.divided(1, turner[-1]))


def common_inner(field, turner, other):
    """The common inner part of both turn sums; nought of two noughts."""
    return with_head_one(field, last_part(field, turner, other, split_in))


def common_outer(field, turner, other):
    """The common outer part of both turn sums; nought of two noughts."""
    found = last_part(field, turner, other, split_out)
    if found == []:
        return []
    # An outer part stays one if an element times x is put into it, but mostly not if it is multiplied.
    factor = field.turned(field.divided(1, found[-1]), 1 - len(found))
    return put(field, found, [factor])


def joint(field, turner, other):
    """The turn sum of the least degree, with the head 1, to which both are inner."""
    one, left = told(field, turner), told(field, other)
    if one == [] or left == []:
        raise NoughtTurner()
    # Of the turner, ahead makes one and beside makes left, but for multiples of the other one; so when nothing is
    # left, beside of the turner is a multiple of both, and of the least degree. If that is too great, put says so.
    ahead, beside = [1], []
    while left != []:
        quotient, rest = split_in(field, one, left)
        one, left = left, rest
        ahead, beside = beside, less(field, ahead, put(field, quotient, beside))
    return with_head_one(field, put(field, beside, turner))
