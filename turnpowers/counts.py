"""COUNTS as they are written: decimal digits without needless noughts."""

DIGITS = "0123456789"


def is_digits(word):
    """Whether a string has nothing but decimal digits."""
    return all([sign in DIGITS for sign in word])


def count_in(word, most):
    """The COUNT that a string tells; None unless it is written so, with at most so many digits."""
    if not 1 <= len(word) <= most or not is_digits(word):
        return None
    if word[0] == "0" and len(word) > 1:
        return None
    return int(word)


def counts_in(words, most):
    """The list of the COUNTS that strings tell; None unless each is one of at most so many digits."""
    counts = [count_in(word, most) for word in words]
    return None if None in counts else counts
