"""Words mended: the turn sum whose word is near a word, and pairs of turn sums that show that none is."""

from turnpowers.basics import without_noughts
from turnpowers.books import check_book_word, check_let, is_let, off, worths_at
from turnpowers.checks import MOST_TURNER, are_some_of
from turnpowers.division import divided_out
from turnpowers.rows import relation_of
from turnpowers.turners import worth


def is_within_reach(book, word, turner):
    """Whether the word is off from the turn sum's one in no more directions than the book's reach."""
    return off(book, word, worths_at(book, turner)) <= book.reach


def is_near(book, word, turner):
    """Whether a turn sum of a degree below the book's many is within reach of the word."""
    check_book_word(book, word)
    check_let(book, turner)
    return is_within_reach(book, word, turner)


def pair_length(book):
    """For how many points, from the first one on, a pair has its worths in common."""
    return book.many + 2 * book.reach


def turned_rows(field, row, many):
    """The row turned 0, 1, .. times, as many rows as told."""
    return [[field.turned(one, times) for one in row] for times in range(many)]


def solved_pair(book, word):
    """A pair of the word: a tuple of two turn sums."""
    check_book_word(book, word)
    field, length, beside = book.field(), pair_length(book), book.many + book.reach
    points = book.points()[:length]
    minus = [field.taken(0, one) for one in word[:length]]
    # Rows of free points are free of one another while there are no more of them than points: so the relation takes
    # in some rows of the word, and the turn sum of these is not nought.
    rows = turned_rows(field, points, beside) + turned_rows(field, minus, book.reach + 1)
    relation = relation_of(field, rows)
    return relation[beside:], without_noughts(relation[:beside])


def are_two_turners(field, value):
    """Whether any value is a tuple of two turn sums."""
    if not isinstance(value, tuple) or len(value) != 2:
        return False
    return all([are_some_of(field, turner, MOST_TURNER) for turner in value])


def is_pair(book, word, value):
    """Whether any value is a pair of the word."""
    check_book_word(book, word)
    field = book.field()
    if not are_two_turners(field, value):
        return False
    divisor, turner = without_noughts(value[0]), without_noughts(value[1])
    if not 0 < len(divisor) <= book.reach + 1 or len(turner) > book.many + book.reach:
        return False
    pairs = list(zip(word, book.points()))[:pair_length(book)]
    return all([worth(field, divisor, one) == worth(field, turner, point) for one, point in pairs])


def told_by_pair(book, word, pair):
    """The turn sum within reach of the word that its pair tells; None if the pair is far."""
    quotient, rest = divided_out(book.field(), pair[1], pair[0])
    if rest == [] and is_let(book, quotient) and is_within_reach(book, word, quotient):
        return quotient
    return None


def is_far_pair(book, word, value):
    """Whether any value is a pair of the word that is far."""
    return is_pair(book, word, value) and told_by_pair(book, word, value) is None


def mended(book, word):
    """The turn sum of a degree below the book's many within reach of the word; None if there is none."""
    return told_by_pair(book, word, solved_pair(book, word))
