"""Points 74 and 75: how many words of each rank a book has, and contrary books."""

import unittest

from tests.helpers import (
    BIG, EIGHT, FIELDS, FOUR, GREAT, NINE, OTHER_EIGHT, OTHER_NINE, SIXTEEN, SMALL_BOOKS, TWENTYSEVEN, WRONG_BOOKS,
    PlainBook, alike, books_of, check_named, check_new, check_wrong, plain_plus, plain_rank, plain_times,
    plain_turned, sample,
)
from turnpowers.books import Book, is_word, least_off, word_of
from turnpowers.errors import InvalidBook
from turnpowers.ranks import contrary, is_contrary, rank_row

LONE, TWO = Book(EIGHT, [1, 2, 4], 1), Book(EIGHT, [1, 2, 4], 2)


def sum_against(field, word, other):
    """The products of the elements of two words, place by place, together."""
    total = 0
    for one, beside in zip(word, other):
        total = plain_plus(field, total, plain_times(field, one, beside))
    return total


def held_by(prime, dimension, many):
    """How many spaces of the dimension many a space holds, by the products of point 74."""
    above, below = 1, 1
    for done in range(many):
        above *= prime ** dimension - prime ** done
        below *= prime ** many - prime ** done
    assert above % below == 0
    return above // below


def all_of_rank(field, length, rank):
    """How many of all words of the length have the rank: choices of a space of it, and of words that have it whole."""
    total = held_by(field.prime, field.turns, rank)
    for done in range(rank):
        total *= field.prime ** length - field.prime ** done
    return total


def moved(field, points, factor):
    """The points, each times an element."""
    return [plain_times(field, factor, one) for one in points]


class ExamplesTest(unittest.TestCase):
    def test_examples(self):
        self.assertEqual([rank_row(LONE), rank_row(TWO)], [[1, 0, 0, 7], [1, 0, 49, 14]])
        self.assertIsNone(contrary(Book(EIGHT, [1, 2], 2)))
        found = [is_contrary(TWO, contrary(TWO)), is_contrary(TWO, Book(EIGHT, [5, 1, 3], 1)),
                 is_contrary(TWO, Book(EIGHT, [1, 2, 4], 1))]
        self.assertEqual(found, [True, True, False])


class RanksTest(unittest.TestCase):
    def test_all_words_of_small_books(self):
        for field, points, many in SMALL_BOOKS + [(OTHER_NINE, [2], 1), (SIXTEEN, [7, 2, 12], 2)]:
            plain = PlainBook(field, points, many)
            counts = [0] * (len(points) + 1)
            for word in plain.turners:
                counts[plain.ranks[word]] += 1
            self.assertTrue(alike(rank_row(plain.book), counts))

    def test_all_come_to_all_words(self):
        for field in FIELDS:
            for book in books_of(field):
                found = rank_row(book)
                self.assertTrue(all(type(many) is int and many >= 0 for many in found))
                self.assertEqual([len(found), found[0]], [book.length + 1, 1])
                self.assertEqual(found[1:least_off(book)], [0] * (book.length - book.many))
                self.assertEqual(sum(found), field.size ** book.many)
                # Words of the least rank: one for each space of that many dimensions, times elements but 0.
                least = least_off(book)
                self.assertEqual(found[least], held_by(field.prime, book.length, least) * (field.size - 1))

    def test_all_words_of_the_length(self):
        for field in FIELDS:
            for length in range(1, field.turns + 1):
                book = Book(field, [field.prime ** at for at in range(length)], length)
                self.assertEqual(rank_row(book), [all_of_rank(field, length, rank) for rank in range(length + 1)])

    def test_the_same_of_other_points(self):
        for book in (TWO, Book(OTHER_EIGHT, [6, 3, 4], 2), Book(EIGHT, [6, 3, 4], 2)):
            self.assertEqual(rank_row(book), [1, 0, 49, 14])

    def test_great_one(self):
        book = Book(BIG, [2 ** at for at in range(7)], 4)
        self.assertEqual(rank_row(book)[:5], [1, 0, 0, 0, 11811 * 127])
        self.assertEqual(sum(rank_row(book)), 128 ** 4)

    def test_by_name_and_new_lists(self):
        check_named(self, rank_row, ["book"], [TWO], [1, 0, 49, 14])
        check_new(self, rank_row(TWO), [rank_row(TWO)])

    def test_wrong_values(self):
        check_wrong(self, rank_row, [("book", TWO, WRONG_BOOKS, InvalidBook)])


class ContraryTest(unittest.TestCase):
    def check_contrary(self, book):
        field, found = book.field(), contrary(book)
        if book.many == book.length:
            self.assertIsNone(found)
            return
        self.assertIs(type(found), Book)
        self.assertEqual([found.field(), found.length, found.many], [field, book.length, book.length - book.many])
        for many in range(book.many - book.length + 1, book.many):
            turned = [plain_turned(field, point, many % field.turns) for point in book.points()]
            self.assertEqual(sum_against(field, turned, found.points()), 0)
        self.assertIs(is_contrary(book, found), True)
        self.assertIs(is_contrary(found, book), True)
        self.assertEqual(contrary(book), found)

    def test_all_fields(self):
        for field in FIELDS:
            for book in books_of(field):
                self.check_contrary(book)

    def test_words_stand_against_words(self):
        for field, points, many in SMALL_BOOKS:
            if many < len(points):
                plain = PlainBook(field, points, many)
                other = contrary(plain.book)
                words = [word_of(plain.book, [0] * at + [1 + at]) for at in range(many)]
                words.append(word_of(plain.book, sample(field, many, 5)))
                for value in plain.all_words[::1 + len(plain.all_words) // 500]:
                    stands = all(sum_against(field, value, word) == 0 for word in list(plain.turners)[:40] + words)
                    self.assertIs(is_word(other, value), stands)

    def test_just_the_points_times_an_element(self):
        for book in (LONE, TWO, Book(NINE, [4, 2], 1), Book(SIXTEEN, [3, 9, 5], 2), Book(TWENTYSEVEN, [5, 2, 9], 1)):
            field, found = book.field(), contrary(book)
            for factor in range(1, field.size):
                other = Book(field, moved(field, found.points(), factor), found.many)
                self.assertIs(is_contrary(book, other), True)

    def test_all_books_of_a_small_field(self):
        for book in (LONE, TWO):
            for first in range(1, 8):
                self.check_others(book, first)

    def check_others(self, book, first):
        lots = [(first, second, third) for second in range(1, 8) for third in range(1, 8)]
        lots = [lot for lot in lots if len({first, lot[1]}) == 2 and lot[2] not in (first, lot[1], first ^ lot[1])]
        words = [word_of(book, turner) for turner in ([1], [0, 1], [3, 5])[:2 * book.many - 1]]
        for lot in lots:
            for many in (1, 2, 3):
                other = Book(EIGHT, lot, many)
                tops = [word_of(other, [0] * at + [1]) for at in range(many)]
                stands = all(sum_against(EIGHT, word, top) == 0 for word in words for top in tops)
                self.assertIs(is_contrary(book, other), many == 3 - book.many and stands)

    def test_others_are_none(self):
        others = [TWO, LONE, Book(EIGHT, [5, 1], 1), Book(EIGHT, [5, 1, 3], 2), Book(OTHER_EIGHT, [5, 1, 3], 1)]
        for other in others + [Book(EIGHT, [1, 5, 3], 1), Book(EIGHT, [5], 1), Book(SIXTEEN, [5, 1, 3], 1)]:
            self.assertIs(is_contrary(TWO, other), False)
        full = Book(EIGHT, [1, 2, 4], 3)
        for other in (full, LONE, TWO, contrary(TWO), None):
            self.assertIs(is_contrary(full, other), False)
        for other in WRONG_BOOKS + [b"1", Ellipsis, 10 ** 600, contrary, [contrary(TWO)], (contrary(TWO),), GREAT]:
            self.assertIs(is_contrary(TWO, other), False)

    def test_another_length(self):
        # Points that are right as far as they go, with one more behind them.
        book = Book(SIXTEEN, [1, 2, 4], 2)
        points = contrary(book).points()
        for last in range(1, 16):
            if plain_rank(SIXTEEN, points + [last]) == 4:
                self.assertIs(is_contrary(book, Book(SIXTEEN, points + [last], 1)), False)
        self.assertIs(is_contrary(book, Book(SIXTEEN, points, 1)), True)

    def test_points_as_a_tuple_and_in_another_sequence(self):
        self.assertIs(is_contrary(Book(EIGHT, (1, 2, 4), 2), Book(EIGHT, (5, 1, 3), 1)), True)
        self.assertIs(is_contrary(Book(EIGHT, [2, 1, 4], 2), Book(EIGHT, [1, 5, 3], 1)), True)
        self.assertIs(is_contrary(Book(EIGHT, [4, 1, 2], 2), Book(EIGHT, [5, 1, 3], 1)), False)

    def test_two_points(self):
        for field in (FOUR, NINE):
            for first in range(1, field.size):
                book = Book(field, [first, plain_times(field, first, field.prime)], 1)
                self.check_contrary(book)

    def test_by_position_and_by_name(self):
        check_named(self, contrary, ["book"], [LONE], contrary(LONE))
        check_named(self, contrary, ["book"], [Book(NINE, [3], 1)], None)
        check_named(self, is_contrary, ["book", "value"], [TWO, Book(EIGHT, [5, 1, 3], 1)], True)
        check_named(self, is_contrary, ["book", "value"], [TWO, [5, 1, 3]], False)

    def test_wrong_values(self):
        check_wrong(self, contrary, [("book", TWO, WRONG_BOOKS, InvalidBook)])
        check_wrong(self, is_contrary, [("book", TWO, WRONG_BOOKS, InvalidBook), ("value", None, [], None)])


if __name__ == "__main__":
    unittest.main()
