"""How many spaces and chains there are, and the lists of all of them."""

from turnpowers.checks import check_field, check_many
from turnpowers.errors import TooMany
from turnpowers.fields import check_prime
from turnpowers.frees import steps_of
from turnpowers.spaces import Space, check_space

MOST_SPACES = 400
MOST_CHAINS = 400
MOST_DIMENSION = 7


def counted_to(prime, dimension):
    """1, p, p p, .., as many as the dimension, together: how many spaces of dimension 1 such a space has."""
    total = 0
    for _ in range(dimension):
        total = total * prime + 1
    return total


def spaces_in(prime, dimension, many):
    """How many spaces of the dimension many a space of another one, at least as great, holds."""
    above, below = 1, 1
    for done in range(many):
        # Each factor p ** n - p ** done of the one product, and that of the other one, without p ** done (p - 1).
        above *= counted_to(prime, dimension - done)
        below *= counted_to(prime, many - done)
    return above // below


def space_count(field, many):
    """How many spaces of the dimension many the field has."""
    check_field(field)
    check_many(many, field.turns)
    return spaces_in(field.prime, field.turns, many)


def gone_on(field, many, position, steps, free):
    """All ways to go on at this position with steps, and with the mixtures that are free: of places where none ends."""
    unit = field.with_figures([0] * position + [1])
    found = []
    if len(steps) < many:
        found = [(steps + [unit + mix], free) for mix in free]
    # Where too few positions are behind this one for the steps that are wanted, one must end here.
    if len(steps) + field.turns - position - 1 >= many:
        found.append((steps, [figure * unit + mix for figure in range(field.prime) for mix in free]))
    return found


def all_steps(field, many):
    """The sorted list of the steps of all spaces of the dimension many."""
    ways = [([], [0])]
    for position in range(field.turns):
        ways = [made for steps, free in ways for made in gone_on(field, many, position, steps, free)]
    return sorted([steps for steps, _ in ways])


def spaces_of(field, many):
    """The list of all spaces of the dimension many, sorted by their steps."""
    if space_count(field, many) > MOST_SPACES:
        raise TooMany("spaces", MOST_SPACES)
    return [Space(field, steps) for steps in all_steps(field, many)]


def chain_count(prime, many):
    """How many chains a space of the dimension many has, over the base figures below the prime."""
    check_prime(prime)
    check_many(many, MOST_DIMENSION)
    total = 1
    for dimension in range(1, many + 1):
        total *= counted_to(prime, dimension)
    return total


def next_steps(space, steps):
    """The list of the steps of the spaces of one dimension more that hold these steps and lie within the space."""
    field = space.field()
    found = []
    for one in space.listed():
        made = steps_of(field, steps + [one])
        if len(made) > len(steps) and made not in found:
            found.append(made)
    return found


def space_chains(space):
    """The list of all chains of the space, lists of Spaces, sorted by the lists of their spaces' steps."""
    check_space(space)
    field = space.field()
    if chain_count(field.prime, space.dimension) > MOST_CHAINS:
        raise TooMany("chains", MOST_CHAINS)
    chains = [[[]]]
    for _ in range(space.dimension):
        chains = [chain + [made] for chain in chains for made in next_steps(space, chain[-1])]
    return [[Space(field, steps) for steps in chain] for chain in sorted(chains)]
