"""Like elements: those that are led to one another by powers that are the prime less one."""

from turnpowers.checks import check_field, is_one_of
from turnpowers.elements import check_two


def leads(field, one, other, factor):
    """Whether an element that is not 0 leads the one to the other."""
    return field.multiplied(one, field.raised(factor, field.prime - 1)) == other


def like_by(field, one, other):
    """An element that leads the one to the other; None if they are not like."""
    check_two(field, one, other)
    for factor in range(1, field.size):
        if leads(field, one, other, factor):
            return factor
    return None


def is_like_by(field, one, other, value):
    """Whether any value is an element, not 0, that leads the one to the other."""
    check_two(field, one, other)
    return is_one_of(field, value) and value != 0 and leads(field, one, other, value)


def are_like(field, one, other):
    """Whether some element that is not 0 leads the one to the other."""
    return like_by(field, one, other) is not None


def like_lots(field):
    """The sorted list of the sorted lots of like elements."""
    check_field(field)
    factors = [field.raised(one, field.prime - 1) for one in range(1, field.size)]
    found, done = [], {}
    for one in range(field.size):
        if one not in done:
            lot = {field.multiplied(one, factor): True for factor in factors}
            found.append(sorted(lot))
            done.update(lot)
    return found
