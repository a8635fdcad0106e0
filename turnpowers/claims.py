"""Claims about turn sums, elements and words, their contraries, and papers that show that they are true."""

from turnpowers.basics import are_below, copied, without_noughts
from turnpowers.books import Book, is_let, is_long_enough
from turnpowers.checks import MOST_SOME, MOST_TURNER, are_some_of, is_one_of
from turnpowers.division import divided_in, divided_out, is_inner
from turnpowers.elements import are_free
from turnpowers.errors import InvalidClaim, TooMany
from turnpowers.fields import Field
from turnpowers.frees import mixed
from turnpowers.likes import are_like, is_like_by, like_by
from turnpowers.mended import are_two_turners, is_far_pair, is_near, mended, solved_pair
from turnpowers.roots import is_full, roots
from turnpowers.rows import relation_of
from turnpowers.turners import degree, put, sum_of, told, worth
from turnpowers.ways import MOST_WHOLE, inner_ones, is_whole, outer_ones

PAIRS = (
    ("inner", "notinner"), ("full", "notfull"), ("like", "unlike"), ("near", "far"), ("free", "tied"),
    ("whole", "apart"),
)


def words():
    """The list of the tuples of a word and that of its contrary."""
    return list(PAIRS)


def pair_of(value):
    """The tuple of both words that has any value for one of them; None if there is none."""
    for pair in PAIRS:
        if isinstance(value, str) and value in pair:
            return pair
    return None


def is_not_nought(field, value):
    """Whether any value is a turn sum that is not nought."""
    return are_some_of(field, value, MOST_TURNER) and without_noughts(value) != []


def is_whole_or_apart(field, turner):
    """Whether a turn sum has a degree of which it is told whether it is whole."""
    return 1 <= degree(field, turner) <= MOST_WHOLE


def are_parts(word, field, parts):
    """Whether a tuple is of the kinds that a claim with this first word wants behind its field."""
    match word:
        case "inner":
            return len(parts) == 2 and are_some_of(field, parts[0], MOST_TURNER) and is_not_nought(field, parts[1])
        case "full":
            return len(parts) == 1 and is_not_nought(field, parts[0])
        case "like":
            return len(parts) == 2 and is_one_of(field, parts[0]) and is_one_of(field, parts[1])
        case "free":
            return len(parts) == 1 and are_some_of(field, parts[0], MOST_SOME)
        case _:
            return len(parts) == 1 and are_some_of(field, parts[0], MOST_TURNER) and is_whole_or_apart(field, parts[0])


def is_claim(value):
    """Whether any value is a claim."""
    if not isinstance(value, tuple) or len(value) < 2 or pair_of(value[0]) is None:
        return False
    word, _ = pair_of(value[0])
    if word == "near":
        return len(value) == 3 and isinstance(value[1], Book) and is_long_enough(value[1], value[2])
    return isinstance(value[1], Field) and are_parts(word, value[1], value[2:])


def check_claim(value):
    """InvalidClaim unless a claim."""
    if not is_claim(value):
        raise InvalidClaim(value)


def holds(word, parts):
    """Whether a claim with this first word is true of the parts."""
    match word:
        case "inner":
            return is_inner(*parts)
        case "full":
            return is_full(*parts)
        case "like":
            return are_like(*parts)
        case "near":
            return mended(*parts) is not None
        case "free":
            return are_free(*parts)
        case _:
            return is_whole(*parts)


def is_true(claim):
    """Whether the claim is true."""
    check_claim(claim)
    word, _ = pair_of(claim[0])
    return holds(word, claim[1:]) == (claim[0] == word)


def contrary(claim):
    """The contrary claim, with new lists and tuples."""
    check_claim(claim)
    word, other = pair_of(claim[0])
    return (other if claim[0] == word else word,) + copied(claim[1:])


def tied_figures(field, some):
    """Base figures, not all 0, with which the mixture of some elements that are not free is 0."""
    # Figures are elements, too: the figures of elements that are tied with base figures are so with these.
    relation = relation_of(field, [field.figures_of(one) for one in some])
    return relation + [0] * (len(some) - len(relation))


def two_parts(field, turner):
    """Two turn sums of the degree 1 or more of which one of the other is the turner, which is not whole."""
    inside = inner_ones(field, turner)
    if inside != []:
        last = [field.taken(0, inside[0]), 1]
        return divided_in(field, turner, last)[0], last
    first = [field.taken(0, outer_ones(field, turner)[0]), 1]
    return first, divided_out(field, turner, first)[0]


def paper_of(claim):
    """A paper of the claim; None if it is not true, or if its word has none."""
    if not is_true(claim):
        return None
    parts = claim[1:]
    match claim[0]:
        case "inner":
            return divided_in(*parts)[0]
        case "notinner":
            return divided_in(*parts)
        case "full":
            return roots(*parts).steps()
        case "like":
            return like_by(*parts)
        case "near":
            return mended(*parts)
        case "far":
            return solved_pair(*parts)
        case "tied":
            return tied_figures(*parts)
        case "apart":
            return two_parts(*parts)
        case _:
            return None


def put_or_none(field, turner, other):
    """The turner of the other one; None if its degree is above that of all turn sums: then it makes no paper."""
    try:
        return put(field, turner, other)
    except TooMany:
        return None


def is_quotient(field, turner, other, value):
    """Whether any value is a turn sum that, of the other one, is the turner."""
    return are_some_of(field, value, MOST_TURNER) and put_or_none(field, value, other) == told(field, turner)


def are_quotient_and_rest(field, turner, other, value):
    """Whether any value is a tuple of the quotient and of the rest, not nought, of the turner by the other one."""
    if not are_two_turners(field, value) or not 0 <= degree(field, value[1]) < degree(field, other):
        return False
    multiple = put_or_none(field, value[0], other)
    return multiple is not None and sum_of(field, multiple, value[1]) == told(field, turner)


def are_all_roots(field, turner, value):
    """Whether any value is a list of as many free elements as the degree tells, at which the worth is 0."""
    if not are_some_of(field, value, MOST_SOME) or len(value) != degree(field, turner) or not are_free(field, value):
        return False
    return all([worth(field, turner, one) == 0 for one in value])


def is_near_one(book, word, value):
    """Whether any value is a turn sum of a degree below the book's many within reach of the word."""
    return is_let(book, value) and is_near(book, word, value)


def are_tied_figures(field, some, value):
    """Whether any value is a list of base figures, not all 0, with which the mixture of the elements is 0."""
    if not are_below(value, field.prime) or len(value) != len(some):
        return False
    return any([figure != 0 for figure in value]) and mixed(field, some, value) == 0


def are_two_parts(field, turner, value):
    """Whether any value is a tuple of two turn sums of the degree 1 or more, the one of the other one the turner."""
    if not are_two_turners(field, value) or not all([degree(field, part) >= 1 for part in value]):
        return False
    return put_or_none(field, value[0], value[1]) == told(field, turner)


def is_paper_of(claim, value):
    """Whether any value is a paper of the claim."""
    check_claim(claim)
    parts = claim[1:]
    match claim[0]:
        case "inner":
            return is_quotient(*parts, value)
        case "notinner":
            return are_quotient_and_rest(*parts, value)
        case "full":
            return are_all_roots(*parts, value)
        case "like":
            return is_like_by(*parts, value)
        case "near":
            return is_near_one(*parts, value)
        case "far":
            return is_far_pair(*parts, value)
        case "tied":
            return are_tied_figures(*parts, value)
        case "apart":
            return are_two_parts(*parts, value)
        case _:
            return False
