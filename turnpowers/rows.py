"""Rows of elements, free of one another or not with all elements for multiples; for values known to be right."""


def row_less(field, row, factor, other):
    """The row, less the factor times the other one, place by place."""
    return [field.taken(one, field.multiplied(factor, beside)) for one, beside in zip(row, other)]


def beginning_of(row):
    """The position of the first element that is not 0; None if there is none."""
    for at, one in enumerate(row):
        if one != 0:
            return at
    return None


def left_of(field, row, kept):
    """The row, less multiples of the kept ones, so that it is 0 where these begin."""
    left = list(row)
    for start, other in kept:
        left = row_less(field, left, field.divided(left[start], other[start]), other)
    return left


def kept_of(field, rows):
    """For each row that is free of those ahead of it: where what is left of it by these begins, and what is left."""
    kept = []
    for row in rows:
        left = left_of(field, row, kept)
        start = beginning_of(left)
        if start is not None:
            kept.append((start, left))
    return kept



def relation_of(field, rows):
    """As few elements as can be, the last one 1, with which the first rows sum to noughts; None if all are free."""
    width, many = len(rows[0]), len(rows)
    # Behind each row stands a place for each row, with a 1 in its own one: there is seen what the rows were taken for.
    marked = [list(row) + [0] * at + [1] + [0] * (many - at - 1) for at, row in enumerate(rows)]
    for at, (start, left) in enumerate(kept_of(field, marked)):
        if start >= width:
            return left[width:width + at + 1]
    return None
