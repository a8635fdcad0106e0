"""Tables of elements: their determinants and ranks, and Moore's tables."""

from turnpowers.basics import is_list
from turnpowers.checks import are_some_of, check_field
from turnpowers.errors import InvalidElements, InvalidRows, NotSquare, TooMany
from turnpowers.frees import widened
from turnpowers.lots import counted_to
from turnpowers.rows import kept_of

MOST_LONG = 8
MOST_MIXED = 7
MOST_MIXTURES = 400


def is_table(field, value):
    """Whether any value is a table over the field."""
    if not is_list(value) or not 1 <= len(value) <= MOST_LONG:
        return False
    if not all([are_some_of(field, row, MOST_LONG) for row in value]):
        return False
    return len(value[0]) > 0 and all([len(row) == len(value[0]) for row in value])


def check_rows(field, value):
    """InvalidRows unless a table."""
    if not is_table(field, value):
        raise InvalidRows(value)


def check_from_one(field, value, most):
    """InvalidElements unless a list of 1 to so many elements."""
    if not are_some_of(field, value, most) or len(value) == 0:
        raise InvalidElements(value)


def moore_table(field, some):
    """The table of the elements, and below them the elements turned once, twice, .., as many rows as elements."""
    check_field(field)
    check_from_one(field, some, MOST_LONG)
    return [[field.turned(one, many) for one in some] for many in range(len(some))]


def is_odd(positions):
    """Whether a sequence of unlike positions is come to by an odd number of exchanges."""
    many = 0
    for at, one in enumerate(positions):
        many += len([other for other in positions[:at] if other > one])
    return many % 2 == 1


def determinant(field, rows):
    """The determinant of a table of as many rows as numbers in a row."""
    check_field(field)
    check_rows(field, rows)
    if len(rows) != len(rows[0]):
        raise NotSquare()
    kept = kept_of(field, rows)
    if len(kept) < len(rows):
        return 0
    # Each row that is kept is 0 where those ahead of it begin: so just one sequence of columns has a product but 0.
    found = 1
    for start, row in kept:
        found = field.multiplied(found, row[start])
    return field.taken(0, found) if is_odd([start for start, _ in kept]) else found


def element_rank(field, rows):
    """How many rows of a table, at most, are free of one another if multiples by all elements are looked at."""
    check_field(field)
    check_rows(field, rows)
    return len(kept_of(field, rows))


def free_product(field, some):
    """The product of all mixtures of the elements of which the last figure that is not 0 is 1."""
    check_field(field)
    check_from_one(field, some, MOST_MIXED)
    if counted_to(field.prime, len(some)) > MOST_MIXTURES:
        raise TooMany("mixtures", MOST_MIXTURES)
    found, mixes = 1, [0]
    for one in some:
        for mix in mixes:
            found = field.multiplied(found, field.added(mix, one))
        mixes = widened(field, mixes, one)
    return found
