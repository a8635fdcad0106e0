"""Point 85: spoilt spaces, and words mended within known directions."""

import unittest

from tests.helpers import (
    BIG, EIGHT, EIGHTYONE, FIELDS, FOUR, NINE, OTHER_EIGHT, SIXTEEN, SMALL_BOOKS, WRONG_BOOKS, WRONG_SPACES,
    PlainBook, alike, books_of, check_error, check_named, check_new, check_wrong, plain_minus, plain_mixtures,
    plain_plus, plain_told_turner, sample, wrong_let, wrong_words,
)
from turnpowers.books import Book, word_of
from turnpowers.errors import InvalidBook, InvalidSpace, InvalidTurner, InvalidWord, TooMany, UnlikeFields
from turnpowers.known import mended_within, spoilt
from turnpowers.lots import spaces_of
from turnpowers.mended import mended
from turnpowers.spaces import Space, is_within

BOOK = Book(EIGHT, [1, 2, 4], 1)
NAMES = ["book", "word", "space"]


def spoilt_word(book, turner, space, start):
    """The word of a turn sum with elements of the space added, place by place."""
    listed, field = space.listed(), book.field()
    return [plain_plus(field, one, listed[(start + at * at + 3 * at) % len(listed)])
            for at, one in enumerate(word_of(book, turner))]


class ExamplesTest(unittest.TestCase):
    def test_examples(self):
        self.assertEqual(spoilt(BOOK, [2, 6, 6], [3]), Space(EIGHT, [1]))
        self.assertEqual(spoilt(BOOK, [2, 6, 6], [2]).dimension, 2)
        self.assertEqual(mended_within(BOOK, [2, 6, 6], Space(EIGHT, [1, 5])), [3])
        self.assertIsNone(mended_within(BOOK, [2, 6, 6], Space(EIGHT, [2])))


class SpoiltTest(unittest.TestCase):
    def test_small_books(self):
        for field, points, many in SMALL_BOOKS:
            plain = PlainBook(field, points, many)
            for word in plain.all_words[::1 + len(plain.all_words) // 30]:
                for other, turner in list(plain.turners.items())[::5]:
                    less = plain.differences(word, other)
                    found = spoilt(plain.book, word, turner)
                    self.assertIs(type(found), Space)
                    self.assertEqual(found.field(), field)
                    self.assertEqual(found.listed(), sorted(set(plain_mixtures(field, less))))
                    self.assertEqual(found.dimension, plain.ranks[less])

    def test_words_of_the_book(self):
        for field in FIELDS:
            for book in books_of(field):
                turner = sample(field, book.many, 4)
                self.assertEqual(spoilt(book, word_of(book, turner), turner), Space(field, []))

    def test_by_position_and_by_name(self):
        check_named(self, spoilt, ["book", "word", "turner"], [BOOK, (2, 6, 6), (3, 0)], Space(EIGHT, [1]))
        check_named(self, spoilt, ["book", "word", "turner"], [BOOK, [3, 6, 7], [3]], Space(EIGHT, []))


class WithinTest(unittest.TestCase):
    def test_all_words_and_spaces_of_small_books(self):
        for field, points, many in SMALL_BOOKS:
            plain = PlainBook(field, points, many)
            spaces = [space for dimension in range(len(points) - many + 1) for space in spaces_of(field, dimension)]
            for word in plain.all_words[::1 + len(plain.all_words) // 60]:
                lacks = [(set(plain.differences(word, other)), turner) for other, turner in plain.turners.items()]
                for space in spaces:
                    listed = set(space.listed())
                    found = [turner for lack, turner in lacks if lack <= listed]
                    self.assertLessEqual(len(found), 1)
                    told = mended_within(plain.book, word, space)
                    self.assertTrue(alike(told, found[0] if found else None), (plain.book, word, space, told))

    def test_all_fields(self):
        for field in FIELDS:
            for book in books_of(field):
                for dimension in range(book.length - book.many + 1):
                    self.check_within(book, dimension)

    def check_within(self, book, dimension):
        field = book.field()
        space = Space(field, [field.prime ** at * (1 + at % (field.prime - 1)) for at in range(dimension)])
        self.assertEqual(space.dimension, dimension)
        turner = plain_told_turner(sample(field, book.many, dimension + 3))
        word = spoilt_word(book, turner, space, dimension)
        self.assertTrue(alike(mended_within(book, word, space), turner))
        self.assertTrue(is_within(spoilt(book, word, turner), space))

    def test_twice_the_reach(self):
        # With known directions as many are mended as words of the book are off at least, less one.
        book = Book(BIG, [2 ** at for at in range(7)], 2)
        space = Space(BIG, [3, 9, 27, 36, 64])
        word = spoilt_word(book, [5, 99], space, 1)
        self.assertEqual([space.dimension, spoilt(book, word, [5, 99])], [5, space])
        self.assertIsNone(mended(book, word))
        self.assertEqual(mended_within(book, word, space), [5, 99])
        self.assertIsNone(mended_within(book, word, Space(BIG, [3, 9, 27, 36])))
        self.assertIsNone(mended_within(book, word, Space(BIG, [])))

    def test_last_points(self):
        # Just the first k + s points make the turn sum, but all of them must fit.
        book = Book(EIGHTYONE, [1, 3, 9, 27], 1)
        turner, space = [7], Space(EIGHTYONE, [5])
        good = word_of(book, turner)
        for last in range(81):
            word = good[:3] + [last]
            lack = plain_minus(EIGHTYONE, last, good[3])
            self.assertEqual(mended_within(book, word, space), turner if lack in space.listed() else None)

    def test_space_of_nought_alone(self):
        for book in (BOOK, Book(EIGHT, [1, 2, 4], 3), Book(NINE, [1, 3], 1), Book(FOUR, [2], 1)):
            nought = Space(book.field(), [])
            word = word_of(book, [3, 1][:book.many])
            self.assertEqual(mended_within(book, word, nought), [3, 1][:book.many])
            self.assertEqual(mended_within(book, [0] * book.length, nought), [])
            if book.many < book.length:
                self.assertIsNone(mended_within(book, word[:-1] + [word[-1] ^ 1], nought))

    def test_by_position_and_by_name(self):
        check_named(self, mended_within, NAMES, [BOOK, (2, 6, 6), Space(EIGHT, [1, 5])], [3])
        check_named(self, mended_within, NAMES, [BOOK, [2, 6, 6], Space(EIGHT, [2])], None)
        space = Space(EIGHT, [1])
        check_new(self, mended_within(BOOK, [2, 6, 6], space), [mended_within(BOOK, [2, 6, 6], space)])


class ErrorsTest(unittest.TestCase):
    def test_wrong_values(self):
        for book in (BOOK, Book(NINE, [1, 3], 2), Book(FOUR, [2], 1)):
            rows = [("book", book, WRONG_BOOKS, InvalidBook),
                    ("word", [1] * book.length, wrong_words(book), InvalidWord)]
            check_wrong(self, spoilt, rows + [("turner", [1], wrong_let(book), InvalidTurner)])
            wrongs = WRONG_SPACES + [book]
            check_wrong(self, mended_within, rows + [("space", Space(book.field(), []), wrongs, InvalidSpace)])

    def test_unlike_fields(self):
        for other in (OTHER_EIGHT, NINE, SIXTEEN):
            for some in ([], [1], [1, 3], [1, 2, 4]):
                space = Space(other, some)
                check_error(self, UnlikeFields, {}, mended_within, BOOK, [1, 2, 4], space)
                check_error(self, InvalidWord, {"value": [1, 8, 4]}, mended_within, BOOK, [1, 8, 4], space)
        equal = Space(type(EIGHT)(2, (1, 1, 0, 1)), [1])
        self.assertEqual(mended_within(BOOK, [2, 6, 6], equal), [3])

    def test_too_many_directions(self):
        for field in FIELDS:
            for book in books_of(field):
                most = book.length - book.many
                for dimension in range(most + 1, field.turns + 1):
                    space = Space(field, [field.prime ** at for at in range(dimension)])
                    told = {"what": "directions", "limit": most}
                    check_error(self, TooMany, told, mended_within, book, [0] * book.length, space)


if __name__ == "__main__":
    unittest.main()
