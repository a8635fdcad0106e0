"""Turn sums as maps of the field, by what they do to its elements."""

from turnpowers.basics import are_below, is_list, without_noughts
from turnpowers.checks import check_field
from turnpowers.errors import InvalidTable
from turnpowers.fields import units_of
from turnpowers.frees import steps_of
from turnpowers.turners import told, worth
from turnpowers.values import through


def units_in(field):
    """The elements of which just one figure, position by position, is 1, and all others are 0."""
    return units_of(field.prime, field.turns - 1)


def worths_of(field, turner):
    """The elements to which a turn sum leads those with just one figure, 1."""
    row = told(field, turner)
    return [worth(field, row, unit) for unit in units_in(field)]


def table_of(field, turner):
    """The map table of the turn sum."""
    return [field.figures_of(one) for one in worths_of(field, turner)]


def is_map_table(field, value):
    """Whether any value is a map table of the field."""
    if not is_list(value) or len(value) != field.turns:
        return False
    return all([are_below(row, field.prime) and len(row) == field.turns for row in value])


def turner_by(field, value):
    """The turn sum of a degree below the field's turns that has this map table."""
    check_field(field)
    if not is_map_table(field, value):
        raise InvalidTable(value)
    return through(field, units_in(field), [field.with_figures(row) for row in value])


def full_row(field, turner):
    """The turn sum as a map, with noughts at its end, so that it has as many numbers as the field has turns."""
    row = told(field, turner)
    found = [0] * field.turns
    for at, one in enumerate(row):
        found[at % field.turns] = field.added(found[at % field.turns], one)
    return found


def as_map(field, turner):
    """The turn sum of a degree below the field's turns that has the same worths."""
    return without_noughts(full_row(field, turner))


def are_one_map(field, turner, other):
    """Whether both turn sums have the same worths at all elements."""
    return as_map(field, turner) == as_map(field, other)


def map_rank(field, turner):
    """The dimension of the space of all worths of the turn sum."""
    return len(steps_of(field, worths_of(field, turner)))
