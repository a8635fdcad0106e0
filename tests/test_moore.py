"""Points 44 and 45: tables, determinants, element ranks, Moore's tables, free products."""

import unittest
from itertools import permutations, product

from tests.helpers import (
    BIG, EIGHT, EIGHTYONE, FIELDS, FORTYNINE, FOUR, NINE, SIXTEEN, TWENTYFIVE, TWENTYSEVEN, WRONG_FIELDS, alike,
    check_error, check_named, check_wrong, plain_minus, plain_plus, plain_times, plain_turned, sample, wrong_lists,
    wrong_ones,
)
from turnpowers.elements import are_free, over, plus, times
from turnpowers.errors import InvalidElements, InvalidField, InvalidRows, NotSquare, TooMany
from turnpowers.moore import determinant, element_rank, free_product, moore_table
from turnpowers.roots import space_turner
from turnpowers.spaces import Space

SOME = [FOUR, EIGHT, SIXTEEN, NINE, TWENTYSEVEN, TWENTYFIVE, FORTYNINE]


def is_odd(columns):
    """Whether the sequence is come to by an odd number of exchanges, by making them."""
    row, many = list(columns), 0
    for at in range(len(row)):
        while row[at] != at:
            beside = row[at]
            row[at], row[beside] = row[beside], row[at]
            many += 1
    return many % 2 == 1


def plain_determinant(field, rows):
    """The sum of point 44."""
    total = 0
    for columns in permutations(range(len(rows))):
        part = 1
        for row, column in zip(rows, columns):
            part = plain_times(field, part, row[column])
        total = plain_plus(field, total, part, -1 if is_odd(columns) else 1)
    return total


def plain_rank(field, rows):
    """The element rank, by how many sums of multiples of the rows there are."""
    found = {(0,) * len(rows[0])}
    for row in rows:
        found = {tuple(plus(field, one, times(field, factor, part)) for one, part in zip(other, row))
                 for other in found for factor in range(field.size)}
    many = 0
    while field.size ** many < len(found):
        many += 1
    return many


def plain_mixtures_with_head(field, some):
    """All mixtures of which the last figure that is not 0 is 1."""
    found = []
    for row in product(range(field.prime), repeat=len(some)):
        kept = [figure for figure in row if figure != 0]
        if kept and kept[-1] == 1:
            total = 0
            for one, figure in zip(some, row):
                total = plain_plus(field, total, plain_times(field, figure, one))
            found.append(total)
    return found


def plain_free_product(field, some):
    """The product of all mixtures of which the last figure that is not 0 is 1."""
    found = 1
    for mixture in plain_mixtures_with_head(field, some):
        found = plain_times(field, found, mixture)
    return found


def table(field, high, wide, start):
    """A table with so many rows and columns, another one for each start."""
    return [sample(field, wide, start + 3 * at + at * at) for at in range(high)]


def matrix_product(field, one, other):
    """One table times the other one."""
    found = []
    for row in one:
        found.append([])
        for column in zip(*other):
            total = 0
            for left, right in zip(row, column):
                total = plus(field, total, times(field, left, right))
            found[-1].append(total)
    return found


def wrong_tables(field):
    """Values that are no tables over the field."""
    found = [None, True, False, 0, 1, -1, "", "1", "12", [], (), {}, {1: 1}, field, [1], [1, 2], (1,), [None]]
    found += [[[]], [[], []], ((),), [[1], []], [[], [1]], [[1], [1, 2]], [[1, 2], [1]], ([1, 2], [1, 2], [1])]
    found += [[[1]] * 9, [[1] * 9], [[1] * 8] * 9, [[1] * 9] * 8, [[1] * 100], [[1], 1], [1, [1]], [[1], None]]
    found += [[[1], "1"], ["12", "34"], [[1], {}], [{1: 1}], [[[1]]], [[(1,)]], [[1], True], [[1, 2], [1, 2], 3]]
    for one in wrong_ones(field):
        found += [[[one]], [[1, one], [1, 1]], ((1, 1), (1, one)), [[1, 2], [one, 2]]]
    return found


class ExamplesTest(unittest.TestCase):
    def test_tables(self):
        self.assertEqual(moore_table(EIGHT, [2, 4]), [[2, 4], [4, 6]])
        self.assertEqual(determinant(EIGHT, moore_table(EIGHT, [2, 4])), 1)
        self.assertEqual([free_product(EIGHT, [2, 4]), free_product(EIGHT, (2, 4, 6))], [1, 0])
        self.assertEqual([element_rank(EIGHT, [[1, 2], [2, 4]]), determinant(EIGHT, [[5]])], [1, 5])


class DeterminantTest(unittest.TestCase):
    def check_determinant(self, field, rows):
        self.assertTrue(alike(determinant(field, rows), plain_determinant(field, rows)), (field, rows))

    def test_all_of_a_small_field(self):
        for row in product(range(4), repeat=4):
            self.check_determinant(FOUR, [row[:2], row[2:]])
        for one in range(9):
            self.assertEqual(determinant(NINE, [[one]]), one)

    def test_by_its_sum(self):
        for field in SOME:
            for many in (2, 3, 4):
                for start in range(6):
                    self.check_determinant(field, table(field, many, many, start))
        for field in (EIGHT, NINE):
            self.check_determinant(field, table(field, 5, 5, 1))
            self.check_determinant(field, table(field, 5, 5, 2))

    def test_with_noughts(self):
        for field in (EIGHT, NINE, FORTYNINE):
            last = field.size - 1
            self.check_determinant(field, [[0, 1], [last, 0]])
            self.check_determinant(field, [[0, 0, 1], [0, last, 2], [3, 1, 0]])
            self.check_determinant(field, [[0, 1, 0], [0, 0, last], [3, 0, 0]])
            self.check_determinant(field, [[0, 0, 0, 2], [0, 0, 1, 1], [1, last, 1, 0], [last, 0, 2, 3]])
            self.check_determinant(field, [[1, 1, 1], [2, 2, 2], [1, 2, 3]])
            self.check_determinant(field, [[0, 1, 1], [0, 2, 2], [0, 2, 3]])
            self.check_determinant(field, [[0] * 3] * 3)
            self.check_determinant(field, [[1, 0, 2], [1, 0, 1], [3, 0, 1]])

    def test_exchanges(self):
        # Each row has one number, not 0, in another column: the sign tells the exchanges.
        longest = [(7, 6, 5, 4, 3, 2, 1, 0), (1, 2, 3, 4, 5, 6, 7, 0), (1, 0, 2, 3, 4, 5, 6, 7)]
        for columns in list(permutations(range(4))) + longest:
            rows = [[1 if at == column else 0 for at in range(len(columns))] for column in columns]
            self.assertEqual(determinant(NINE, rows), 2 if is_odd(columns) else 1)
            self.assertEqual(determinant(EIGHT, rows), 1)

    def test_eight_rows(self):
        for field in (EIGHT, NINE, EIGHTYONE, BIG):
            lower = [[(at * beside + 1) % field.size if beside < at else int(beside == at) for beside in range(8)]
                     for at in range(8)]
            upper = [list(row) for row in zip(*table(field, 8, 8, 2))]
            upper = [[upper[at][beside] if beside > at else (at + 1) % field.size if at == beside else 0
                      for beside in range(8)] for at in range(8)]
            expected = 1
            for at in range(8):
                expected = times(field, expected, upper[at][at])
            self.assertEqual(determinant(field, matrix_product(field, lower, upper)), expected)
            self.assertEqual(determinant(field, matrix_product(field, upper, lower)), expected)
            self.assertEqual(element_rank(field, matrix_product(field, lower, upper)) == 8, expected != 0)

    def test_products_of_tables(self):
        for field in SOME:
            for many in (2, 3, 6):
                one, other = table(field, many, many, 4), table(field, many, many, 9)
                both = determinant(field, matrix_product(field, one, other))
                self.assertEqual(both, times(field, determinant(field, one), determinant(field, other)))

    def test_not_square(self):
        for rows in ([[1, 2]], [[1], [2]], ((0, 0),), [[1] * 8], [[1]] * 8, [[1] * 8] * 7, [[1] * 7] * 8):
            check_error(self, NotSquare, {}, determinant, EIGHT, rows)
            check_error(self, NotSquare, {}, determinant, rows=rows, field=EIGHT)
        # The errors of the parameters come ahead.
        check_error(self, InvalidRows, {"value": [[1, 8]]}, determinant, EIGHT, [[1, 8]])
        check_error(self, InvalidRows, {"value": [[1, 2], [1]]}, determinant, EIGHT, [[1, 2], [1]])
        check_error(self, InvalidField, {"value": 8}, determinant, 8, [[1, 2]])

    def test_by_position_and_by_name(self):
        names = ["field", "rows"]
        check_named(self, determinant, names, [EIGHT, [[2, 4], [4, 6]]], 1)
        check_named(self, determinant, names, [EIGHT, ((2, 4), [4, 6])], 1)
        check_named(self, determinant, names, [EIGHT, ((0,),)], 0)
        check_named(self, element_rank, names, [EIGHT, [[2, 4], [4, 6]]], 2)
        check_named(self, element_rank, names, [EIGHT, ((2, 4, 1),)], 1)


class ElementRankTest(unittest.TestCase):
    def check_rank(self, field, rows):
        found = element_rank(field, rows)
        self.assertTrue(alike(found, plain_rank(field, rows)), (field, rows))
        self.assertEqual(element_rank(field, list(zip(*rows))), found)

    def test_all_of_a_small_field(self):
        for row in product(range(4), repeat=4):
            self.check_rank(FOUR, [row[:2], row[2:]])
        for row in product((0, 1, 3), repeat=6):
            self.check_rank(FOUR, [row[:3], row[3:]])

    def test_others(self):
        for field in (FOUR, EIGHT, NINE):
            for high, wide in ((1, 1), (1, 4), (2, 5), (3, 2), (3, 3)):
                for start in range(4):
                    self.check_rank(field, table(field, high, wide, start))
        for field in (SIXTEEN, TWENTYFIVE):
            for wide in (1, 2, 3, 8):
                self.check_rank(field, table(field, 2, wide, 3))

    def test_multiples_by_elements(self):
        for field in FIELDS:
            last = field.size - 1
            self.assertEqual(element_rank(field, [[1, 2], [last, times(field, last, 2)]]), 1)
            self.assertEqual(element_rank(field, [[1], [last], [2], [0]]), 1)
            self.assertEqual(element_rank(field, [[0], [0]]), 0)
            self.assertEqual(element_rank(field, [[0, 0, 0]]), 0)
            self.assertEqual(element_rank(field, [[0, 0, 1], [0, last, 1], [0, 1, 0]]), 2)

    def test_of_eight_rows_and_columns(self):
        for field in (EIGHT, NINE, BIG):
            for many in range(1, 9):
                left = [[1 if at == beside else int(at >= many) for beside in range(many)] for at in range(8)]
                right = [[1 if at == beside else int(beside >= many) for beside in range(8)] for at in range(many)]
                self.assertEqual(element_rank(field, matrix_product(field, left, right)), many)
            self.assertEqual(element_rank(field, [[0] * 8] * 8), 0)
            self.assertEqual(element_rank(field, [[1] * 8] * 8), 1)


class MooreTableTest(unittest.TestCase):
    def test_tables(self):
        for field in FIELDS:
            for many in range(1, 9):
                some = sample(field, many, many + 1)
                expected = [[plain_turned(field, one, at) for one in some] for at in range(many)]
                check_named(self, moore_table, ["field", "some"], [field, some], expected)
                check_named(self, moore_table, ["field", "some"], [field, tuple(some)], expected)
                self.assertEqual({type(row) for row in moore_table(field, tuple(some))}, {list})

    def test_determinant_is_the_free_product(self):
        for field in SOME + [EIGHTYONE, BIG]:
            for many in range(1, 5):
                for start in range(4):
                    some = sample(field, many, start)
                    expected = determinant(field, moore_table(field, some))
                    self.assertTrue(alike(free_product(field, some), expected))
                    self.assertIs(expected != 0, are_free(field, some))

    def test_free_product_by_its_mixtures(self):
        for field in SOME:
            for many in range(1, 4):
                some = sample(field, many, 5)
                self.assertEqual(free_product(field, some), plain_free_product(field, some))
        for row in product(range(1, 9), repeat=2):
            self.assertEqual(free_product(NINE, row), plain_free_product(NINE, row))

    def test_turn_sums_of_spaces(self):
        for field, many in ((EIGHT, 2), (NINE, 1), (SIXTEEN, 3), (TWENTYSEVEN, 2), (TWENTYSEVEN, 3), (EIGHT, 3)):
            some = [field.prime ** at + 1 for at in range(many)]
            self.assertTrue(are_free(field, some))
            rows = [[plain_turned(field, one, at) for one in some] for at in range(many + 1)]
            found = []
            for left_out in range(many + 1):
                without = determinant(field, rows[:left_out] + rows[left_out + 1:])
                number = over(field, without, determinant(field, rows[:many]))
                found.append(plain_minus(field, 0, number) if (many - left_out) % 2 else number)
            self.assertEqual(space_turner(Space(field, some)), found)

    def test_edges_of_the_free_product(self):
        for field in FIELDS:
            last = field.size - 1
            self.assertEqual(free_product(field, [last]), last)
            self.assertEqual(free_product(field, (0,)), 0)
            self.assertEqual(free_product(field, [last, last]), 0)
            self.assertEqual(free_product(field, [1, 2, 3]) != 0, are_free(field, [1, 2, 3]))

    def test_limit(self):
        free = [3 ** at for at in range(4)]
        most = {2: 7, 3: 6, 5: 4, 7: 4}
        for field in FIELDS:
            for many in range(1, 8):
                for some in ([0] * many, (1,) * many, list(range(1, 8))[:many], (free + [1, 2, 3])[:many]):
                    if max(some) >= field.size:
                        continue
                    if many <= most[field.prime]:
                        self.assertEqual(free_product(field, some), determinant(field, moore_table(field, some)))
                    else:
                        check_error(self, TooMany, {"what": "mixtures", "limit": 400}, free_product, field, some)
        # Just 400 mixtures are not too many.
        self.assertEqual(len(plain_mixtures_with_head(FORTYNINE, [1, 7, 2, 3])), 400)
        self.assertEqual(free_product(FORTYNINE, [1, 7, 2, 3]), 0)
        self.assertNotEqual(free_product(BIG, [1, 2, 4, 8, 16, 32, 64]), 0)

    def test_by_position_and_by_name(self):
        check_named(self, free_product, ["field", "some"], [EIGHT, [2, 4]], 1)
        check_named(self, free_product, ["field", "some"], [EIGHT, (2, 4, 6)], 0)


class ErrorsTest(unittest.TestCase):
    def test_wrong_lists(self):
        for field in (EIGHT, NINE):
            for function, most in ((moore_table, 8), (free_product, 7)):
                check_wrong(self, function, [
                    ("field", field, WRONG_FIELDS, InvalidField),
                    ("some", [1, 2], wrong_lists(field, most) + [[], ()], InvalidElements),
                ])

    def test_too_long_ahead_of_too_many(self):
        check_error(self, InvalidElements, {"value": [1] * 8}, free_product, FORTYNINE, [1] * 8)
        check_error(self, InvalidElements, {"value": [49] * 7}, free_product, FORTYNINE, [49] * 7)
        check_error(self, InvalidField, {"value": None}, free_product, None, [1] * 7)

    def test_wrong_tables(self):
        for field in (EIGHT, NINE):
            for function in (determinant, element_rank):
                check_wrong(self, function, [
                    ("field", field, WRONG_FIELDS, InvalidField),
                    ("rows", [[1, 2], [3, 1]], wrong_tables(field), InvalidRows),
                ])


if __name__ == "__main__":
    unittest.main()
