"""Dickson's tables and the mirrors of turn sums."""

from turnpowers.basics import without_noughts
from turnpowers.maps import full_row


def turned_row(field, row, many):
    """The row moved on around its end by so many places, its elements turned as often."""
    start = len(row) - many
    return [field.turned(one, many) for one in row[start:] + row[:start]]


def dickson(field, turner):
    """Dickson's table of the turn sum."""
    row = full_row(field, turner)
    return [turned_row(field, row, many) for many in range(field.turns)]


def mirror(field, turner):
    """The turn sum of which the trace with x put at y is that of the turner with y put at x."""
    return without_noughts([row[0] for row in dickson(field, turner)])
