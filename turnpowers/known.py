"""Words mended where the directions are known in which they may be spoilt."""

from turnpowers.books import check_book_word, check_let, differences, worths_at
from turnpowers.division import divided_out
from turnpowers.errors import TooMany, UnlikeFields
from turnpowers.roots import space_turner
from turnpowers.spaces import Space, check_space, is_within
from turnpowers.turners import worth
from turnpowers.values import through


def spoilt(book, word, turner):
    """The least space that holds all differences of the word and that of a turn sum of a degree below the many."""
    check_book_word(book, word)
    check_let(book, turner)
    return Space(book.field(), differences(book, word, worths_at(book, turner)))


def mended_within(book, word, space):
    """The turn sum of a degree below the many whose spoilt space lies within the space; None if there is none."""
    check_book_word(book, word)
    check_space(space)
    field, most = book.field(), book.length - book.many
    if space.field() != field:
        raise UnlikeFields()
    if space.dimension > most:
        raise TooMany("directions", most)
    divisor, length = space_turner(space), book.many + space.dimension
    worths = [worth(field, divisor, one) for one in word[:length]]
    quotient, rest = divided_out(field, through(field, book.points()[:length], worths), divisor)
    # The points behind the first ones have no part in the quotient: they may be off in other directions.
    if rest == [] and is_within(spoilt(book, word, quotient), space):
        return quotient
    return None
