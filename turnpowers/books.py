"""Books: the words that the turn sums of low degrees have at free points."""

from turnpowers.basics import is_below, without_noughts
from turnpowers.checks import MOST_TURNER, are_some_of, check_field
from turnpowers.errors import InvalidBook, InvalidMany, InvalidTurner, InvalidWord
from turnpowers.frees import steps_of
from turnpowers.turners import worth
from turnpowers.values import check_points, through


class Book:
    """The book of some points of a field, and of the turn sums of degrees below many."""

    def __init__(self, field, points, many):
        check_field(field)
        check_points(field, points)
        if not is_below(many, len(points) + 1) or many == 0:
            raise InvalidMany(many)
        self._field = field
        self._points = list(points)
        self._many = many

    @property
    def length(self):
        """How many points there are, and elements in a word."""
        return len(self._points)

    @property
    def many(self):
        """How many elements the turn sums of its words have at most."""
        return self._many

    @property
    def reach(self):
        """In how many directions a word may be spoilt so that it is surely mended."""
        return (len(self._points) - self._many) // 2

    def points(self):
        """The list of its points."""
        return list(self._points)

    def field(self):
        """The field of its points."""
        return self._field

    def __eq__(self, other):
        return (
            isinstance(other, Book) and self._field == other._field and self._points == other._points
            and self._many == other._many
        )

    def __repr__(self):
        return f"Book({self._field!r}, {self._points!r}, {self._many})"


def check_book(value):
    """InvalidBook unless a Book."""
    if not isinstance(value, Book):
        raise InvalidBook(value)


def is_long_enough(book, value):
    """Whether any value is a list of as many elements as the book has points."""
    return are_some_of(book.field(), value, book.length) and len(value) == book.length


def check_word(book, value):
    """InvalidWord unless a list of as many elements as the book has points."""
    if not is_long_enough(book, value):
        raise InvalidWord(value)


def check_book_word(book, word):
    """The errors of the parameters book, word."""
    check_book(book)
    check_word(book, word)


def is_let(book, value):
    """Whether any value is a turn sum of a degree below the book's many."""
    return are_some_of(book.field(), value, MOST_TURNER) and len(without_noughts(value)) <= book.many


def check_let(book, value):
    """InvalidTurner unless a turn sum of a degree below the book's many."""
    if not is_let(book, value):
        raise InvalidTurner(value)


def worths_at(book, turner):
    """The worths of the turn sum at the book's points."""
    return [worth(book.field(), turner, point) for point in book.points()]


def word_of(book, turner):
    """The word of the book that the turn sum has."""
    check_book(book)
    check_let(book, turner)
    return worths_at(book, turner)


def is_word(book, value):
    """Whether any value is a word of the book."""
    check_book(book)
    return is_long_enough(book, value) and turner_of(book, value) is not None


def turner_of(book, word):
    """The turn sum of a degree below the book's many that has the word; None unless it is one of the book."""
    check_book_word(book, word)
    found = through(book.field(), book.points(), word)
    return found if len(found) <= book.many else None


def differences(book, word, other):
    """The word, less the other one, place by place."""
    return [book.field().taken(one, beside) for one, beside in zip(word, other)]


def off(book, word, other):
    """In how many directions two words are off."""
    check_book_word(book, word)
    check_word(book, other)
    return len(steps_of(book.field(), differences(book, word, other)))


def least_off(book):
    """In how many directions any two unlike words of the book are off at least."""
    check_book(book)
    return book.length - book.many + 1
