"""Polynomials with base figures: lists of these from the power 0 on, with no 0 at their end."""

from turnpowers.basics import without_noughts


def product_of(prime, one, other):
    """One polynomial times the other one."""
    sums = [0] * (len(one) + len(other) - 1)
    for at, figure in enumerate(one):
        for beside, factor in enumerate(other):
            sums[at + beside] = (sums[at + beside] + figure * factor) % prime
    return without_noughts(sums)


def inverse_of(prime, figure):
    """The base figure that times this one, not 0, is 1."""
    return [other for other in range(1, prime) if figure * other % prime == 1][0]


def rest_of(prime, one, other):
    """What the division of the one by the other one, not nought, leaves."""
    inverse = inverse_of(prime, other[-1])
    left = list(one)
    while len(left) >= len(other):
        factor = left[-1] * inverse % prime
        start = len(left) - len(other)
        for at, figure in enumerate(other):
            left[start + at] = (left[start + at] - factor * figure) % prime
        left = without_noughts(left)
    return left


def common_of(prime, one, other):
    """A polynomial of the greatest degree that divides both, which are not both nought."""
    while other != []:
        one, other = other, rest_of(prime, one, other)
    return one


def power_rest(prime, one, many, modulus):
    """The rest by the modulus of the polynomial, many times as a factor."""
    found = rest_of(prime, [1], modulus)
    for _ in range(many):
        found = rest_of(prime, product_of(prime, found, one), modulus)
    return found


def less_x(prime, one):
    """The polynomial less x."""
    row = one + [0] * (2 - len(one))
    row[1] = (row[1] - 1) % prime
    return without_noughts(row)


def cannot_be_parted(prime, modulus):
    """Whether a polynomial of the degree 2 or more, with the last number 1, is no product of lesser ones."""
    # x to the power p ** i, less x, is the product of all parts, with the last number 1, that cannot be parted
    # and whose degrees divide i; and a product has such a part of at most half its degree.
    turned = [0, 1]
    for _ in range((len(modulus) - 1) // 2):
        turned = power_rest(prime, turned, prime, modulus)
        if len(common_of(prime, modulus, less_x(prime, turned))) > 1:
            return False
    return True
