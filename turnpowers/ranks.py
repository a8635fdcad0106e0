"""How many words of each rank a book has, and its contrary book."""

from turnpowers.books import Book, check_book, least_off
from turnpowers.fields import units_of
from turnpowers.lots import spaces_in
from turnpowers.rows import relation_of


def words_of_rank(book, rank):
    """How many words of the book have this rank, not 0."""
    prime, size, beyond = book.field().prime, book.field().size, rank - least_off(book)
    total = 0
    for done in range(beyond + 1):
        factor = units_of(prime, done * (done - 1) // 2)[-1]
        part = factor * spaces_in(prime, rank, done) * (units_of(size, beyond - done + 1)[-1] - 1)
        total = total - part if done % 2 == 1 else total + part
    return spaces_in(prime, book.length, rank) * total


def rank_row(book):
    """How many words of the book have the rank 0, 1, .., its length."""
    check_book(book)
    return [1] + [words_of_rank(book, rank) for rank in range(1, book.length + 1)]


def turns_against(book):
    """How many times the points are turned, each time, to come to 0 with those of the contrary; below 0 turned back."""
    return list(range(book.many - book.length + 1, book.many))


def contrary(book):
    """A book of all the words that stand against each word of the book; None if there is none."""
    check_book(book)
    if book.many == book.length:
        return None
    field = book.field()
    rows = [[field.turned(point, many) for many in turns_against(book)] for point in book.points()]
    return Book(field, relation_of(field, rows), book.length - book.many)


def come_to_nought(book, factors):
    """Whether the products of these elements and the points, turned, come to 0 for each number of turns."""
    field = book.field()
    for many in turns_against(book):
        total = 0
        for factor, point in zip(factors, book.points()):
            total = field.added(total, field.multiplied(factor, field.turned(point, many)))
        if total != 0:
            return False
    return True


def is_contrary(book, value):
    """Whether any value is a book of all the words that stand against each word of the book."""
    check_book(book)
    if not isinstance(value, Book) or value.field() != book.field():
        return False
    if value.length != book.length or value.many != book.length - book.many:
        return False
    return come_to_nought(book, value.points())
