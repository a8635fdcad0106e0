"""Rows of elements, free of one another or not with all elements for multiples; for values known to be right."""


def row_less(field, row, factor, other):
    """The row, less the factor times the other one, place by place."""
    return [field.taken(one, field.multiplied(factor, beside)) for one, beside in zip(row, other)]


def beginning_of(row):
    """The position of the first element that is not 0; None if there is none."""
    for at, one in enumerate(row):
        if one != 0:
            return at
    return None


def left_of(field, row, kept):
    """The row, less multiples of the kept ones, so that it is 0 where these begin."""
    left = list(row)
    for start, other in kept:
        left = row_less(field, left, field.divided(left[start], other[start]), other)
    return left


def kept_of(field, rows):
    """For each row that is free of those ahead of it: where what is left of it by these begins, and what is left."""
    kept = []
    for row in rows:
        left = left_of(field, row, kept)
        start = beginning_of(left)
        if start is not None:
            kept.append((start, left))
    return kept
