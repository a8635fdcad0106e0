"""What kinds of plain values there are, and lists of numbers told without noughts at their end."""


def is_integer(value):
    """Whether any value is an INTEGER: an int that is not a bool."""
    return isinstance(value, int) and not isinstance(value, bool)


def is_count(value):
    """Whether any value is a COUNT: an INTEGER that is at least 0."""
    return is_integer(value) and value >= 0


def is_below(value, bound):
    """Whether any value is a COUNT below the bound."""
    return is_count(value) and value < bound


def is_list(value):
    """Whether any value is a list where one is passed: a tuple will do."""
    return isinstance(value, (list, tuple))


def are_below(value, bound):
    """Whether any value is a list of COUNTS below the bound."""
    return is_list(value) and all([is_below(one, bound) for one in value])


def without_noughts(row):
    """The row without the noughts at its end, a new list."""
    many = len(row)
    while many > 0 and row[many - 1] == 0:
        many -= 1
    return list(row[:many])


def copied(value):
    """The value with new lists and tuples, those inside them too."""
    if isinstance(value, list):
        return [copied(one) for one in value]
    if isinstance(value, tuple):
        return tuple([copied(one) for one in value])
    return value
