"""Middle ones: turn sums that are the same put into each other one as with that one put into them."""

from turnpowers.basics import without_noughts
from turnpowers.division import alone_at, divided_in
from turnpowers.errors import TooMany
from turnpowers.roots import told_not_nought
from turnpowers.rows import relation_of
from turnpowers.turners import MOST_DEGREE, filled, told


def is_middle(field, turner):
    """Whether the turn sum is a middle one."""
    row = told(field, turner)
    return all([one == 0 or (at % field.turns == 0 and one < field.prime) for at, one in enumerate(row)])


def rest_figures(field, turner, many):
    """The figures of what x turned many times leaves, divided innerly by a told turn sum that is not nought."""
    _, rest = divided_in(field, alone_at(many, 1), turner)
    return [figure for one in filled(rest, len(turner) - 1) for figure in field.figures_of(one)]


def spread(field, figures):
    """The middle one with these base figures at the positions that the turns divide."""
    found = []
    for figure in figures:
        found.extend([figure] + [0] * (field.turns - 1))
    return without_noughts(found)


def least_middle(field, turner):
    """The middle one with the head 1 of the least degree to which the turn sum is inner."""
    row = told_not_nought(field, turner)
    rests = [rest_figures(field, row, many) for many in range(0, MOST_DEGREE + 1, field.turns)]
    # The rest of a sum is the sum of the rests, also with base figures for factors: so the turn sum is inner to a
    # middle one just if the rests, each times the figure of its turns, come to nought together.
    figures = relation_of(field, rests)
    if figures is None:
        raise TooMany("degree", MOST_DEGREE)
    return spread(field, figures)
