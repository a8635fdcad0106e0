"""Fields of p ** n numbers, and the moduli that make them."""

from turnpowers.basics import are_below, is_integer, is_list, without_noughts
from turnpowers.errors import InvalidModulus, InvalidPrime, TooMany
from turnpowers.polynomials import cannot_be_parted, product_of, rest_of

PRIMES = (2, 3, 5, 7)
MOST_NUMBERS = 13
MOST_ELEMENTS = 128


def check_prime(value):
    """InvalidPrime unless one of the four primes."""
    if not is_integer(value) or value not in PRIMES:
        raise InvalidPrime(value)


def is_modulus(prime, value):
    """Whether any value is a modulus over the prime."""
    check_prime(prime)
    if not is_list(value) or not 3 <= len(value) <= MOST_NUMBERS:
        return False
    return are_below(value, prime) and value[-1] == 1 and cannot_be_parted(prime, list(value))


def units_of(prime, turns):
    """The prime to the powers 0, 1, .., turns: each tells the figure 1 at that position alone."""
    units = [1]
    for _ in range(turns):
        units.append(units[-1] * prime)
    return units


def figures_in(prime, turns, one):
    """The figures that an element tells."""
    found = []
    for _ in range(turns):
        found.append(one % prime)
        one //= prime
    return found


def told_by(figures, units):
    """The element that tells the figures."""
    return sum([figure * unit for figure, unit in zip(figures, units)])


def powers_of(prime, modulus, one):
    """The powers of an element that is not 0, from the power 0 on, until they begin again."""
    units = units_of(prime, len(modulus) - 1)
    factor = without_noughts(figures_in(prime, len(modulus) - 1, one))
    found, power = [1], factor
    while power != [1]:
        found.append(told_by(power, units))
        power = rest_of(prime, product_of(prime, power, factor), modulus)
    return found


def all_by_powers(prime, modulus, size):
    """All elements but 0, as the powers of the least element of which they all are powers."""
    one, found = 1, [1]
    while len(found) < size - 1:
        one += 1
        found = powers_of(prime, modulus, one)
    return found


class Field:
    """The field of a prime and a modulus.

    Its methods behind modulus() reckon with elements that are known to be its own, and check nothing.
    """

    def __init__(self, prime, modulus):
        if not is_modulus(prime, modulus):
            raise InvalidModulus(modulus)
        units = units_of(prime, len(modulus) - 1)
        size = units.pop()
        if size > MOST_ELEMENTS:
            raise TooMany("elements", MOST_ELEMENTS)
        self._prime = prime
        self._modulus = list(modulus)
        self._size = size
        self._units = units
        # With each element told as a power of one of them, products and turns are sums and products of exponents.
        self._powers = all_by_powers(prime, self._modulus, size)
        self._exponents = {power: at for at, power in enumerate(self._powers)}

    @property
    def prime(self):
        """The prime."""
        return self._prime

    @property
    def turns(self):
        """How many figures an element has, and after how many turns it is itself again."""
        return len(self._units)

    @property
    def size(self):
        """How many elements there are."""
        return self._size

    def modulus(self):
        """The list of the numbers of the modulus."""
        return list(self._modulus)

    def __eq__(self, other):
        return isinstance(other, Field) and self._prime == other._prime and self._modulus == other._modulus

    def __repr__(self):
        return f"Field({self._prime}, {self._modulus})"

    def figures_of(self, one):
        """The list of the figures of the element."""
        return figures_in(self._prime, len(self._units), one)

    def with_figures(self, figures):
        """The element that has the figures."""
        return told_by(figures, self._units)

    def added(self, one, other):
        """The sum of both."""
        pairs = list(zip(self.figures_of(one), self.figures_of(other)))
        return self.with_figures([(figure + beside) % self._prime for figure, beside in pairs])

    def taken(self, one, other):
        """The one, less the other one."""
        pairs = list(zip(self.figures_of(one), self.figures_of(other)))
        return self.with_figures([(figure - beside) % self._prime for figure, beside in pairs])

    def multiplied(self, one, other):
        """The product of both."""
        if one == 0 or other == 0:
            return 0
        return self._powers[(self._exponents[one] + self._exponents[other]) % len(self._powers)]

    def divided(self, one, other):
        """The one divided by the other one, which is not 0."""
        if one == 0:
            return 0
        return self._powers[(self._exponents[one] - self._exponents[other]) % len(self._powers)]

    def raised(self, one, many):
        """The power many, a COUNT, of the element."""
        if many == 0:
            return 1
        if one == 0:
            return 0
        return self._powers[self._exponents[one] * many % len(self._powers)]

    def turned(self, one, many):
        """The element, turned so many times; turned back, where many is below 0."""
        return self.raised(one, self._units[many % len(self._units)])
