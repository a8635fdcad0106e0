"""Points 73 and 81 to 84: words mended within reach, and pairs that show that no word of the book is near."""

import unittest
from itertools import product

from tests.helpers import (
    BIG, EIGHT, EIGHTYONE, FIELDS, FOUR, NINE, SIXTEEN, SMALL_BOOKS, TWENTYFIVE, WRONG_BOOKS, PlainBook, alike,
    books_of, check_error, check_named, check_new, check_wrong, plain_minus, plain_plus, plain_rank, plain_sum,
    plain_times, plain_told_turner, plain_worth, sample, wrong_let, wrong_lists, wrong_ones, wrong_words,
)
from turnpowers.books import Book, is_word, turner_of, word_of
from turnpowers.division import divided_out
from turnpowers.errors import InvalidBook, InvalidTurner, InvalidWord
from turnpowers.mended import is_far_pair, is_near, is_pair, mended, solved_pair

BOOK = Book(EIGHT, [1, 2, 4], 1)
LONG = Book(EIGHTYONE, [1, 3, 9, 27], 2)
NAMES = ["book", "word", "value"]


def plain_is_pair(book, word, value):
    """Whether a tuple of two turn sums is a pair of a word, by point 82."""
    first, second = plain_told_turner(value[0]), plain_told_turner(value[1])
    if first == [] or len(first) - 1 > book.reach or len(second) - 1 > book.many + book.reach - 1:
        return False
    many, field = book.many + book.reach + book.reach, book.field()
    pairs = list(zip(word, book.points()))[:many]
    return all(plain_worth(field, first, one) == plain_worth(field, second, point) for one, point in pairs)


def spoilt_word(book, word, errors):
    """The word with mixtures of some errors added, at all its places."""
    field, found = book.field(), []
    for at, one in enumerate(word):
        for beside, error in enumerate(errors):
            figure = (at * (beside + 1) + (at + beside) // 2 + (at == beside)) % field.prime
            one = plain_plus(field, one, plain_times(field, figure, error))
        found.append(one)
    return found


def directions(field, word, other):
    """In how many directions two words are off."""
    return plain_rank(field, [plain_minus(field, one, beside) for one, beside in zip(word, other)])


class ExamplesTest(unittest.TestCase):
    def test_mended(self):
        self.assertEqual([mended(BOOK, [3, 6, 7]), mended(BOOK, [2, 6, 6]), mended(BOOK, [1, 4, 6])], [[3], [3], None])
        self.assertEqual([is_near(BOOK, [2, 6, 6], [3]), is_near(BOOK, [2, 6, 6], [2])], [True, False])

    def test_pairs(self):
        self.assertEqual([is_pair(BOOK, [1, 4, 6], ([1], [0, 1])), is_far_pair(BOOK, [1, 4, 6], ([1], [0, 1])),
                          is_far_pair(BOOK, [2, 6, 6], solved_pair(BOOK, [2, 6, 6])),
                          is_pair(BOOK, [1, 4, 6], ([], [])),
                          is_far_pair(BOOK, [1, 4, 6], solved_pair(BOOK, [1, 4, 6]))],
                         [True, True, False, False, True])


class AllWordsTest(unittest.TestCase):
    def check_word(self, plain, word):
        near = plain.near(word, plain.book.reach)
        self.assertLessEqual(len(near), 1)
        found, pair = mended(plain.book, word), solved_pair(plain.book, word)
        self.assertTrue(alike(found, near[0] if near else None), (plain.book, word, found))
        self.assertTrue(plain_is_pair(plain.book, word, pair), (plain.book, word, pair))
        self.assertIs(is_pair(plain.book, word, pair), True)
        self.assertIs(is_far_pair(plain.book, word, pair), near == [])

    def test_small_books(self):
        for field, points, many in SMALL_BOOKS:
            plain = PlainBook(field, points, many)
            for word in plain.all_words:
                self.check_word(plain, word)

    def test_is_near(self):
        for field, points, many in SMALL_BOOKS:
            plain = PlainBook(field, points, many)
            for word in plain.all_words[::1 + len(plain.all_words) // 40]:
                near = plain.near(word, plain.book.reach)
                for turner in list(plain.turners.values())[:64]:
                    self.assertIs(is_near(plain.book, list(word), turner + [0]), turner in near)

    def test_all_pairs(self):
        turners = [list(turner) for turner in product(range(8), repeat=2)]
        for word in ((3, 6, 7), (2, 6, 6), (1, 4, 6), (0, 0, 0), (5, 0, 1)):
            far = mended(BOOK, word) is None
            for pair in product(turners, turners):
                told = plain_is_pair(BOOK, word, pair)
                self.assertIs(is_pair(BOOK, word, pair), told)
                # Either all pairs of a word are far, or none is.
                self.assertIs(is_far_pair(BOOK, word, pair), told and far)

    def test_all_pairs_where_the_reach_is_nought(self):
        turners = [list(turner) for turner in product(range(4), repeat=2)]
        for many in (1, 2):
            book = Book(FOUR, [3, 1], many)
            for word in product(range(4), repeat=2):
                for pair in product(turners, turners):
                    self.assertIs(is_pair(book, word, pair), plain_is_pair(book, word, pair))


class ReachTest(unittest.TestCase):
    def errors_of(self, field, many):
        factor = 2 + field.size // 3
        return [plain_times(field, factor, field.prime ** at) for at in range(many)]

    def check_spoilt(self, book, many, start):
        field = book.field()
        turner = plain_told_turner(sample(field, book.many, start))
        word = spoilt_word(book, word_of(book, turner), self.errors_of(field, many))
        gone = directions(field, word, word_of(book, turner))
        self.assertIs(is_near(book, word, turner), gone <= book.reach)
        found, pair = mended(book, word), solved_pair(book, word)
        self.assertTrue(plain_is_pair(book, word, pair))
        self.assertIs(is_pair(book, word, pair), True)
        self.assertIs(is_far_pair(book, word, pair), found is None)
        if gone <= book.reach:
            self.assertTrue(alike(found, turner), (book, word, found))
            quotient, rest = divided_out(field, pair[1], pair[0])
            self.assertEqual([quotient, rest], [turner, []])
        elif found is not None:
            self.assertLessEqual(directions(field, word, word_of(book, found)), book.reach)
        return gone

    def test_all_fields(self):
        for field in FIELDS:
            for book in books_of(field):
                for many in range(book.reach + 2):
                    if many <= field.turns:
                        self.check_spoilt(book, many, many + 2)

    def test_just_in_reach_and_just_beyond(self):
        for book in (BOOK, LONG, Book(BIG, [2 ** at for at in range(7)], 1), Book(BIG, [2 ** at for at in range(7)],
                                                                                  3)):
            found = {self.check_spoilt(book, many, 3) for many in range(book.reach + 2)}
            self.assertEqual(found, set(range(book.reach + 2)))

    def test_words_of_the_book(self):
        for field in FIELDS:
            for book in books_of(field):
                turner = plain_told_turner(sample(field, book.many, 7))
                self.assertEqual(mended(book, word_of(book, turner)), turner)
                self.assertEqual(mended(book, (0,) * book.length), [])

    def test_reach_nought(self):
        for book in (Book(EIGHT, [1, 2, 4], 2), Book(EIGHT, [6, 1, 4], 3), Book(NINE, [4], 1), Book(NINE, [1, 3], 1)):
            self.assertEqual(book.reach, 0)
            for start in range(12):
                word = sample(book.field(), book.length, start)
                self.assertEqual(mended(book, word), turner_of(book, word))
                self.assertIs(mended(book, word) is not None, is_word(book, word))

    def test_long_words(self):
        # Differences in few directions at all places: the wrongs are many, what they are mixed of is little.
        book = Book(BIG, [plain_times(BIG, 77, 2 ** at) for at in range(7)], 3)
        turner = [100, 3, 57]
        word = spoilt_word(book, word_of(book, turner), [99, 14])
        self.assertGreaterEqual(sum(1 for one, two in zip(word, word_of(book, turner)) if one != two), 5)
        self.assertEqual(mended(book, word), turner)
        self.assertIs(is_near(book, word, turner), True)
        word = spoilt_word(book, word_of(book, turner), [99, 14, 40])
        self.assertIs(is_near(book, word, turner), False)

    def test_each_direction(self):
        turner = [7, 2]
        good = word_of(LONG, turner)
        for error in range(1, 81):
            figures = [1 + (error + at) % 2 for at in range(4)]
            word = [plain_plus(EIGHTYONE, one, plain_times(EIGHTYONE, figure, error))
                    for one, figure in zip(good, figures)]
            self.assertEqual(mended(LONG, word), turner)


class PairsTest(unittest.TestCase):
    word = [1, 4, 6]

    def test_noughts_at_their_ends(self):
        first, second = solved_pair(BOOK, self.word)
        for noughts in range(3):
            for kind in (list, tuple):
                pair = (kind(first + [0] * noughts), kind(second + [0] * (2 * noughts)))
                self.assertIs(is_pair(BOOK, self.word, pair), True)
                self.assertIs(is_far_pair(BOOK, self.word, pair), True)
        self.assertIs(is_pair(BOOK, self.word, (first + [0] * (13 - len(first)), second)), True)
        self.assertIs(is_pair(BOOK, self.word, (first + [0] * (14 - len(first)), second)), False)

    def test_nought(self):
        for first in ([], (), [0], [0, 0]):
            for second in ([], [0], [0, 1]):
                self.assertIs(is_pair(BOOK, self.word, (first, second)), False)
                self.assertIs(is_pair(BOOK, [0, 0, 0], (first, second)), False)
                self.assertIs(is_far_pair(BOOK, [0, 0, 0], (first, second)), False)
        self.assertIs(is_pair(BOOK, [0, 0, 0], ([1], [])), True)
        self.assertIs(is_far_pair(BOOK, [0, 0, 0], ([1], [0, 0])), False)

    def test_too_great_degrees(self):
        # Multiples of the field's x to the 8, less x, are 0 everywhere, and change no worth.
        self.assertIs(is_pair(BOOK, self.word, ([1], [0, 1])), True)
        self.assertIs(is_pair(BOOK, self.word, ([1], [1, 1, 0, 1])), False)
        self.assertIs(is_pair(BOOK, self.word, ([0, 0, 0, 1], [0, 1])), False)
        self.assertIs(is_pair(BOOK, self.word, ([0, 1], [0, 0, 1])), False)
        self.assertIs(is_pair(BOOK, [1, 2, 4], ([0, 1], [0, 1])), True)
        self.assertIs(is_pair(BOOK, [1, 2, 4], ([0, 0, 1], [0, 0, 1])), False)

    def test_all_points_turned_once(self):
        # The example of point 84: three points, k 1, and the word of all points turned once.
        for points in product(range(1, 8), repeat=3):
            if plain_rank(EIGHT, points) == 3:
                book = Book(EIGHT, points, 1)
                word = [plain_times(EIGHT, one, one) for one in points]
                self.assertIs(is_pair(book, word, ([1], [0, 1])), True)
                self.assertIs(is_far_pair(book, word, ([1], [0, 1])), True)
                self.assertEqual(divided_out(EIGHT, [0, 1], [1]), ([0, 1], []))
                self.assertIsNone(mended(book, word))

    def test_just_the_first_points(self):
        # Three points, k 2: the reach is 0, and just two points count for a pair.
        book = Book(EIGHT, [1, 2, 4], 2)
        for last in range(8):
            self.assertIs(is_pair(book, [1, 4, last], ([1], [0, 1])), True)
            self.assertIs(is_far_pair(book, [1, 4, last], ([1], [0, 1])), last != 6)
            self.assertIs(is_pair(book, [last, 4, 6], ([1], [0, 1])), last == 1)

    def test_wholes_of_pairs(self):
        # V of both, for another V, is a pair, too, while its degrees are not too great.
        book = Book(BIG, [2 ** at for at in range(7)], 1)
        word = spoilt_word(book, word_of(book, [5]), [9])
        first, second = solved_pair(book, word)
        self.assertEqual(len(first), 2)
        for factor in (1, 2, 127):
            scaled = tuple([plain_times(BIG, factor, one) for one in turner] for turner in (first, second))
            self.assertIs(is_pair(book, word, scaled), True)
            self.assertIs(is_far_pair(book, word, scaled), False)
            self.assertIs(is_pair(book, word, (plain_sum(BIG, first, [factor]), second)), False)

    def test_told(self):
        for field in FIELDS:
            for book in books_of(field):
                for start in (1, 6):
                    pair = solved_pair(book, sample(field, book.length, start))
                    self.assertIs(type(pair), tuple)
                    for turner in pair:
                        self.assertTrue(alike(turner, plain_told_turner(turner)))

    def test_any_value(self):
        values = [None, True, False, 0, 1, -1, "", "pair", b"1", {}, [], (), BOOK, EIGHT, [[1], [0, 1]], ([1],)]
        values += [([1], [0, 1], []), ([1], [0, 1], [1]), (None, [1]), ([1], None), ("1", "01"), (1, 2), [1, 2]]
        values += [([1], ([0], [1])), (([1], [0, 1]),), 10 ** 600, ([True], [0, 1]), ([1], [0, True])]
        values += [([1], wrong) for wrong in wrong_lists(EIGHT, 13)]
        values += [(wrong, [0, 1]) for wrong in wrong_lists(EIGHT, 13)]
        for value in values:
            self.assertIs(is_pair(BOOK, self.word, value), False, value)
            self.assertIs(is_far_pair(BOOK, self.word, value), False, value)

    def test_by_position_and_by_name(self):
        pair = solved_pair(BOOK, self.word)
        check_named(self, solved_pair, NAMES[:2], [BOOK, (1, 4, 6)], pair)
        check_named(self, mended, NAMES[:2], [BOOK, [2, 6, 6]], [3])
        check_named(self, mended, NAMES[:2], [BOOK, self.word], None)
        check_named(self, is_near, ["book", "word", "turner"], [BOOK, (2, 6, 6), (3, 0)], True)
        check_named(self, is_near, ["book", "word", "turner"], [BOOK, [2, 6, 6], []], False)
        check_named(self, is_pair, NAMES, [BOOK, self.word, ((1,), [0, 1])], True)
        check_named(self, is_far_pair, NAMES, [BOOK, self.word, ([1, 0], [0, 1])], True)

    def test_new_lists(self):
        pair = solved_pair(BOOK, self.word)
        pair[0].append(5)
        pair[1][0] = 7
        self.assertIs(is_pair(BOOK, self.word, solved_pair(BOOK, self.word)), True)
        found = mended(BOOK, [3, 6, 7])
        found.append(1)
        self.assertEqual(mended(BOOK, [3, 6, 7]), [3])
        check_new(self, solved_pair(BOOK, self.word), [solved_pair(BOOK, self.word)])


class ErrorsTest(unittest.TestCase):
    def test_wrong_values(self):
        for book in (BOOK, Book(NINE, [1, 3], 2), Book(FOUR, [2], 1), Book(TWENTYFIVE, [5, 2], 1)):
            rows = [("book", book, WRONG_BOOKS, InvalidBook),
                    ("word", [1] * book.length, wrong_words(book), InvalidWord)]
            check_wrong(self, mended, rows)
            check_wrong(self, solved_pair, rows)
            check_wrong(self, is_near, rows + [("turner", [1], wrong_let(book), InvalidTurner)])
            for value in (None, ([1], [])):
                check_wrong(self, is_pair, rows + [("value", value, [], None)])
                check_wrong(self, is_far_pair, rows + [("value", value, [], None)])

    def test_first_error(self):
        for one in wrong_ones(SIXTEEN):
            book = Book(SIXTEEN, [1, 2], 1)
            check_error(self, InvalidWord, {"value": [1, one]}, is_near, book, [1, one], None)
            check_error(self, InvalidTurner, {"value": [one]}, is_near, book, [1, 1], [one])


if __name__ == "__main__":
    unittest.main()
