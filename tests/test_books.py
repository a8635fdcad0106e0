"""Points 71 and 72: books, their words, and directions in which words are off."""

import unittest

from tests.helpers import (
    EIGHT, FIELDS, FOUR, GREAT, NINE, OTHER_EIGHT, SIXTEEN, SMALL_BOOKS, TWENTYFIVE, WRONG_BOOKS, WRONG_FIELDS,
    PlainBook, alike, books_of, check_error, check_named, check_new, check_wrong, free_lots, plain_minus, plain_rank,
    plain_sum, plain_times, plain_told_turner, plain_worth, sample, turners_of, wrong_let, wrong_lists, wrong_ones,
    wrong_words,
)
from turnpowers.books import Book, is_word, least_off, off, turner_of, word_of
from turnpowers.errors import InvalidBook, InvalidField, InvalidMany, InvalidPoints, InvalidTurner, InvalidWord

LONE, TWO = Book(EIGHT, [1, 2, 4], 1), Book(EIGHT, [1, 2, 4], 2)


class ExamplesTest(unittest.TestCase):
    def test_words(self):
        self.assertEqual([word_of(LONE, [3]), word_of(TWO, [0, 1])], [[3, 6, 7], [1, 4, 6]])
        self.assertEqual([is_word(LONE, [3, 6, 7]), is_word(LONE, [3, 6, 6])], [True, False])
        self.assertEqual([turner_of(TWO, [1, 4, 6]), turner_of(LONE, [1, 4, 6])], [[0, 1], None])

    def test_off(self):
        self.assertEqual([LONE.length, LONE.many, LONE.reach], [3, 1, 1])
        self.assertEqual([off(LONE, [3, 6, 7], [3, 6, 6]), least_off(TWO), off(TWO, [1, 1, 1], [0, 0, 0])], [1, 2, 1])


class BookTest(unittest.TestCase):
    def test_all_fields(self):
        for field in FIELDS:
            for points in free_lots(field):
                for many in range(1, len(points) + 1):
                    book = Book(field, points, many)
                    parts = [book.length, book.many, book.reach]
                    self.assertTrue(alike(parts, [len(points), many, (len(points) - many) // 2]))
                    self.assertTrue(alike(book.points(), list(points)))
                    self.assertEqual(book.field(), field)
                    self.assertEqual(repr(book), f"Book({field!r}, {list(points)!r}, {many})")
                    self.assertEqual(least_off(book), len(points) - many + 1)

    def test_equal(self):
        self.assertTrue(LONE == Book(same_field(EIGHT), (1, 2, 4), 1))
        others = [Book(EIGHT, [1, 4, 2], 1), TWO, Book(EIGHT, [1, 2], 1), Book(EIGHT, [2, 4, 1], 1)]
        others += [Book(OTHER_EIGHT, [1, 2, 4], 1), Book(EIGHT, [1, 2, 5], 1), Book(SIXTEEN, [1, 2, 4], 1)]
        for other in others + [None, 1, "Book", [1, 2, 4], (EIGHT, [1, 2, 4], 1), EIGHT]:
            self.assertIs(LONE == other, False)
            self.assertIs(LONE != other, True)
            self.assertIs(other == LONE, False)

    def test_repr(self):
        self.assertEqual(repr(LONE), "Book(Field(2, [1, 1, 0, 1]), [1, 2, 4], 1)")
        self.assertEqual(repr(Book(NINE, (4,), 1)), "Book(Field(3, [1, 0, 1]), [4], 1)")

    def test_copies_and_new_lists(self):
        points = [1, 2, 4]
        book = Book(EIGHT, points, 1)
        points[0] = 3
        points.append(7)
        self.assertEqual(book.points(), [1, 2, 4])
        book.points().append(5)
        book.points()[0] = 6
        self.assertEqual([book.points(), book.length], [[1, 2, 4], 3])
        self.assertEqual(book, LONE)

    def test_by_position_and_by_name(self):
        self.assertEqual(Book(field=EIGHT, points=(1, 2, 4), many=1), LONE)
        self.assertEqual(Book(EIGHT, many=2, points=[1, 2, 4]), TWO)

    def test_properties_are_not_set(self):
        for name in ("length", "many", "reach"):
            with self.assertRaises(AttributeError):
                setattr(LONE, name, 2)

    def wrong_points(self, field):
        tied = [[], (), [0], (0,), [1, 1], [0, 1], (2, 1, 2), [1] * field.turns, list(range(field.turns + 1))]
        tied.append([field.prime ** at for at in range(field.turns)] + [field.size - 1])
        return tied + [[1, 2, 3], (1, 2)][:1 + (field.prime > 2)] + wrong_lists(field, field.turns)

    def test_wrong_values(self):
        for field in (EIGHT, NINE, FOUR, TWENTYFIVE):
            for many in (1, 2):
                manys = [0, True, False, None, -1, 3, 4, 13, GREAT, -GREAT, "1", "", [1], (1,), [], {}, EIGHT]
                check_wrong(self, Book, [
                    ("field", field, WRONG_FIELDS, InvalidField),
                    ("points", [1, field.prime], self.wrong_points(field), InvalidPoints),
                    ("many", many, manys, InvalidMany),
                ])

    def test_many_bounds(self):
        for field in FIELDS:
            for points in free_lots(field):
                for many in (0, len(points) + 1):
                    check_error(self, InvalidMany, {"value": many}, Book, field, points, many)


def same_field(field):
    """An equal field that is another object."""
    return type(field)(field.prime, field.modulus())


class WordsTest(unittest.TestCase):
    def test_all_words_of_small_books(self):
        for field, points, many in SMALL_BOOKS:
            plain = PlainBook(field, points, many)
            self.assertEqual(len(plain.turners), field.size ** many)
            for word, turner in plain.turners.items():
                self.assertTrue(alike(word_of(plain.book, turner), list(word)))
                self.assertEqual(word_of(plain.book, tuple(turner) + (0, 0)), list(word))
            for word in plain.all_words:
                found = turner_of(plain.book, word)
                self.assertTrue(alike(found, plain.turners.get(word)), (plain.book, word, found))
                self.assertIs(is_word(plain.book, list(word)), word in plain.turners)
                self.assertIs(is_word(plain.book, word), word in plain.turners)

    def test_all_fields(self):
        for field in FIELDS:
            for book in books_of(field):
                for turner in turners_of(field, book.many, 5)[:-1]:
                    word = [plain_worth(field, turner, point) for point in book.points()]
                    self.assertTrue(alike(word_of(book, turner), word))
                    self.assertTrue(alike(turner_of(book, word), plain_told_turner(turner)))
                    self.assertIs(is_word(book, word), True)
                    if book.many < book.length:
                        spoilt = word[:-1] + [plain_minus(field, word[-1], 1)]
                        self.assertEqual([turner_of(book, spoilt), is_word(book, spoilt)], [None, False])

    def test_sums_and_products(self):
        for book in (TWO, Book(NINE, [4, 2], 1), Book(SIXTEEN, [9, 3, 6], 2)):
            field = book.field()
            for start in (1, 4, 6):
                one, other = sample(field, book.many, start), sample(field, book.many, start + 1)
                words = [word_of(book, turner) for turner in (one, other)]
                less = [plain_minus(field, left, right) for left, right in zip(*words)]
                self.assertEqual(turner_of(book, less), plain_sum(field, one, other, -1))
                scaled = [plain_times(field, 3, left) for left in words[0]]
                self.assertEqual(turner_of(book, scaled), plain_told_turner([plain_times(field, 3, x) for x in one]))

    def test_noughts_at_the_end(self):
        for turner in ([3] + [0] * 12, (3, 0), [3]):
            self.assertEqual(word_of(LONE, turner), [3, 6, 7])
        for turner in ([], (), [0], [0] * 13):
            self.assertEqual(word_of(LONE, turner), [0, 0, 0])
        self.assertEqual([turner_of(LONE, [0, 0, 0]), is_word(LONE, (0, 0, 0))], [[], True])

    def test_all_are_words_where_many_is_the_length(self):
        book = Book(EIGHT, [6, 1, 3], 3)
        for start in range(9):
            word = sample(EIGHT, 3, start)
            self.assertIs(is_word(book, word), True)
            self.assertEqual(word_of(book, turner_of(book, word)), word)

    def test_any_value(self):
        for book in (LONE, TWO, Book(NINE, [1, 3], 2), Book(FOUR, [2], 1)):
            values = wrong_words(book) + [b"1", Ellipsis, 10 ** 600, is_word, book, ([1], [2]), [[1], [2], [3]]]
            for value in values:
                self.assertIs(is_word(book, value), False, value)

    def test_by_position_and_by_name(self):
        check_named(self, word_of, ["book", "turner"], [LONE, [3]], [3, 6, 7])
        check_named(self, word_of, ["book", "turner"], [TWO, (0, 1, 0)], [1, 4, 6])
        check_named(self, turner_of, ["book", "word"], [TWO, [1, 4, 6]], [0, 1])
        check_named(self, turner_of, ["book", "word"], [LONE, (1, 4, 6)], None)
        check_named(self, is_word, ["book", "value"], [LONE, (3, 6, 7)], True)
        check_named(self, is_word, ["book", "value"], [LONE, [3, [6], 7]], False)

    def test_new_lists(self):
        found = word_of(LONE, [3])
        found[0] = 7
        self.assertEqual(word_of(LONE, [3]), [3, 6, 7])
        check_new(self, turner_of(TWO, [1, 4, 6]), [turner_of(TWO, [1, 4, 6])])

    def test_wrong_values(self):
        for book in (LONE, TWO, Book(NINE, [1, 3], 1), Book(FOUR, [2], 1)):
            zeros = [0] * book.length
            check_wrong(self, word_of, [
                ("book", book, WRONG_BOOKS, InvalidBook), ("turner", [1], wrong_let(book), InvalidTurner),
            ])
            check_wrong(self, turner_of, [
                ("book", book, WRONG_BOOKS, InvalidBook), ("word", zeros, wrong_words(book), InvalidWord),
            ])
            check_wrong(self, is_word, [("book", book, WRONG_BOOKS, InvalidBook), ("value", zeros, [], None)])
            check_wrong(self, least_off, [("book", book, WRONG_BOOKS, InvalidBook)])


class OffTest(unittest.TestCase):
    def test_small_books(self):
        for field, points, many in SMALL_BOOKS:
            plain = PlainBook(field, points, many)
            some = plain.all_words[::1 + len(plain.all_words) // 60]
            for word in some:
                for other in some[::4] + [word]:
                    expected = plain.ranks[plain.differences(word, other)]
                    self.assertTrue(alike(off(plain.book, word, list(other)), expected))

    def test_least_off(self):
        for field, points, many in SMALL_BOOKS:
            plain = PlainBook(field, points, many)
            ranks = {plain.ranks[word] for word in plain.turners if any(word)}
            self.assertEqual(min(ranks), least_off(plain.book))
            self.assertEqual(least_off(plain.book), len(points) - many + 1)

    def test_any_two_words_of_the_book(self):
        for field, points, many in SMALL_BOOKS:
            plain = PlainBook(field, points, many)
            words = list(plain.turners)[:20]
            for word in words:
                for other in words:
                    found = off(plain.book, word, other)
                    self.assertTrue(found == 0 if word == other else found >= least_off(plain.book))

    def test_all_fields(self):
        for field in FIELDS:
            for book in books_of(field):
                for start in (1, 2):
                    word, other = sample(field, book.length, start), sample(field, book.length, start + 3)
                    less = [plain_minus(field, one, beside) for one, beside in zip(word, other)]
                    self.assertTrue(alike(off(book, word, tuple(other)), plain_rank(field, less)))
                self.assertTrue(alike(off(book, book.points(), [0] * book.length), book.length))
                self.assertTrue(alike(least_off(book), book.length - book.many + 1))

    def test_by_position_and_by_name(self):
        check_named(self, off, ["book", "word", "other"], [LONE, [3, 6, 7], (3, 6, 6)], 1)
        check_named(self, off, ["book", "word", "other"], [TWO, (1, 2, 3), [0, 0, 0]], 2)
        check_named(self, least_off, ["book"], [TWO], 2)

    def test_wrong_values(self):
        for book in (LONE, Book(NINE, [1, 3], 2), Book(FOUR, [2], 1)):
            check_wrong(self, off, [
                ("book", book, WRONG_BOOKS, InvalidBook),
                ("word", [1] * book.length, wrong_words(book), InvalidWord),
                ("other", [0] * book.length, wrong_words(book), InvalidWord),
            ])
            for one in wrong_ones(book.field()):
                word = [1] * (book.length - 1) + [one]
                check_error(self, InvalidWord, {"value": word}, off, book, word, None)


if __name__ == "__main__":
    unittest.main()
