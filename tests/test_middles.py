"""Points 65 and 66: middle ones and least middle ones."""

import unittest
from itertools import product

from tests.helpers import (
    BIG, EIGHT, EIGHTYONE, FIELDS, FORTYNINE, FOUR, NINE, OTHER_EIGHT, SIXTEEN, TWENTYFIVE, TWENTYSEVEN,
    WRONG_FIELDS, alike, check_error, check_named, check_wrong, plain_put, plain_told_turner, sample, turners_of,
    wrong_lists,
)
from turnpowers.division import is_inner
from turnpowers.errors import InvalidField, InvalidTurner, NoughtTurner, TooMany
from turnpowers.middles import is_middle, least_middle

THIRTYTWO, SIXTYFOUR, ONE_TWO_FIVE = FIELDS[5], FIELDS[6], FIELDS[13]
SOME = [FOUR, EIGHT, OTHER_EIGHT, SIXTEEN, THIRTYTWO, SIXTYFOUR, BIG, NINE, TWENTYSEVEN, EIGHTYONE, TWENTYFIVE,
        ONE_TWO_FIVE, FORTYNINE]
NAMES = ["field", "turner"]
NOUGHTS = [[], (), [0], (0, 0), [0] * 13]


def middles_of(field, degree):
    """All middle ones of the degree with the head 1."""
    if degree % field.turns:
        return []
    found = []
    for figures in product(range(field.prime), repeat=degree // field.turns):
        row = []
        for figure in figures:
            row += [figure] + [0] * (field.turns - 1)
        found.append(row + [1])
    return found


def is_swapped(field, turner):
    """Whether it is the same put into all elements times x, and into x turned, as with these put into it."""
    others = [[one] for one in range(field.size)] + [[0, 1]]
    return all(plain_put(field, turner, other) == plain_put(field, other, turner) for other in others)


def plain_least(field, turner):
    """All middle ones with the head 1 of the least degree to which it is inner; none where 12 would not do."""
    for degree in range(0, 13, field.turns):
        found = [one for one in middles_of(field, degree) if is_inner(field, one, turner)]
        if found:
            return found
    return []


class ExamplesTest(unittest.TestCase):
    def test_examples(self):
        self.assertEqual([least_middle(EIGHT, [1, 1, 1]), least_middle(EIGHT, [2, 1])], [[1, 0, 0, 1]] * 2)
        self.assertEqual([least_middle(EIGHT, [0, 1]), is_middle(EIGHT, [1, 0, 0, 1])], [[0, 0, 0, 1], True])
        self.assertEqual([is_middle(EIGHT, [2, 0, 0, 1]), is_middle(EIGHT, [])], [False, True])


class IsMiddleTest(unittest.TestCase):
    def test_all_of_small_fields(self):
        for field, many in ((FOUR, 3), (EIGHT, 2), (NINE, 2)):
            for turner in product(range(field.size), repeat=many):
                self.assertIs(is_middle(field, turner), is_swapped(field, turner))

    def test_figures_and_others_at_all_positions(self):
        for field in (FOUR, EIGHT, NINE, TWENTYFIVE, SIXTEEN):
            for at in range(13):
                for one in range(1, min(field.size, 8)):
                    turner = [0] * at + [one]
                    expected = at % field.turns == 0 and one < field.prime
                    self.assertIs(is_middle(field, turner), expected)
                    self.assertIs(is_swapped(field, turner), expected)

    def test_middle_ones(self):
        for field in FIELDS:
            for degree in range(0, 13, field.turns):
                for row in middles_of(field, degree)[:9]:
                    self.assertIs(is_middle(field, row), True)
                    self.assertIs(is_middle(field, tuple(row) + (0,) * (12 - degree)), True)
                    self.assertIs(is_middle(field, row[:-1] + [field.prime]), False)
                    if degree:
                        self.assertIs(is_middle(field, [row[0], 1] + row[2:]), False)

    def test_edges(self):
        for field in FIELDS:
            for nought in NOUGHTS:
                self.assertIs(is_middle(field, nought), True)
            for figure in range(1, field.prime):
                self.assertIs(is_middle(field, [figure]), True)
            self.assertIs(is_middle(field, (1, 0, 0)), True)
            for turner in ([field.prime], [field.size - 1], [0, 1], [1, 1], [1] * 13):
                self.assertIs(is_middle(field, turner), False)

    def test_by_position_and_by_name(self):
        check_named(self, is_middle, NAMES, [EIGHT, [1, 0, 0, 1]], True)
        check_named(self, is_middle, NAMES, [EIGHT, (2, 0, 0, 1)], False)


class LeastMiddleTest(unittest.TestCase):
    def check_least(self, field, turner):
        expected = plain_least(field, turner)
        if not expected:
            check_error(self, TooMany, {"what": "degree", "limit": 12}, least_middle, field, turner)
            return
        found = least_middle(field, turner)
        self.assertTrue(alike([found], expected), (field, turner, found, expected))
        self.assertIs(is_middle(field, found), True)
        self.assertLessEqual(len(found) - 1, field.turns * (len(plain_told_turner(turner)) - 1))

    def test_all_of_small_fields(self):
        for field, many in ((FOUR, 2), (EIGHT, 1), (NINE, 1)):
            for row in product(range(field.size), repeat=many):
                for head in range(1, 4):
                    self.check_least(field, list(row) + [head])

    def test_others(self):
        for field in SOME:
            rows = turners_of(field, 3 if field.turns == 2 else 5, 4)[2:]
            for turner in rows + [[1, 1], [2, 1, 1], [0, 0, 1], [1, 0, 3]]:
                if plain_told_turner(turner):
                    self.check_least(field, turner)

    def test_of_degree_twelve(self):
        for field, many in ((FOUR, 6), (EIGHT, 4), (SIXTEEN, 3), (SIXTYFOUR, 2), (NINE, 6)):
            found = []
            for start in range(40):
                turner = sample(field, many, start) + [1]
                if len(least_middle(field, turner)) == 13:
                    found.append(turner)
            self.assertTrue(found, field)
            for turner in found[:2]:
                self.check_least(field, turner)

    def test_longest(self):
        for field in (FOUR, EIGHT, SIXTEEN, SIXTYFOUR):
            for row in middles_of(field, 12)[:4]:
                self.assertEqual(least_middle(field, row), row)
                self.assertEqual(least_middle(field, tuple(row)), row)
        for turner in ([1] * 13, [0] * 12 + [1], [1] + [0] * 11 + [1], (2,) + (0,) * 11 + (3,)):
            for field in (FOUR, EIGHT, SIXTEEN, THIRTYTWO, SIXTYFOUR, BIG, TWENTYSEVEN, EIGHTYONE):
                self.check_least(field, turner)

    def test_of_middle_ones(self):
        for field in FIELDS:
            for degree in range(0, 13, field.turns):
                for row in middles_of(field, degree)[:5]:
                    self.assertEqual(least_middle(field, row), row)
                    self.assertEqual(least_middle(field, plain_put(field, [field.size - 1], row)), row)

    def test_limit(self):
        too_many = {"what": "degree", "limit": 12}
        for field, turner in ((BIG, [3, 1, 1]), (THIRTYTWO, [2, 1, 1, 1]), (EIGHTYONE, [3, 1, 0, 2, 1]),
                              (SIXTYFOUR, [2, 1, 1, 1]), (TWENTYSEVEN, [1, 2, 3, 4, 5, 6]), (BIG, [0] * 12 + [1])):
            self.assertEqual(plain_least(field, turner), [])
            check_error(self, TooMany, too_many, least_middle, field, turner)
            check_error(self, TooMany, too_many, least_middle, turner=turner, field=field)
        check_error(self, TooMany, too_many, least_middle, BIG, [0] * 8 + [1])
        check_error(self, TooMany, too_many, least_middle, THIRTYTWO, (0,) * 11 + (1, 0))
        self.assertEqual(least_middle(BIG, [0] * 7 + [5]), [0] * 7 + [1])
        self.assertEqual(least_middle(EIGHT, [0] * 10 + [5]), [0] * 12 + [1])
        self.assertEqual(least_middle(THIRTYTWO, (0,) * 6 + (1, 0)), [0] * 10 + [1])

    def test_each_other_one_is_of_it(self):
        for field, turner in ((FOUR, [2, 1]), (FOUR, [1, 3, 2]), (EIGHT, [2, 1, 1]), (NINE, [4, 1])):
            found = least_middle(field, turner)
            for degree in range(0, 9, field.turns):
                for row in middles_of(field, degree):
                    if is_inner(field, row, turner):
                        self.assertTrue(is_inner(field, row, found))

    def test_edges(self):
        for field in FIELDS:
            last, less_one = field.size - 1, field.prime - 1
            for turner in ([1], [last], (last, 0), [2] + [0] * 12):
                self.assertEqual(least_middle(field, turner), [1])
            for many in range(1, field.turns + 1):
                self.assertEqual(least_middle(field, [0] * many + [last]), [0] * field.turns + [1])
            self.assertEqual(least_middle(field, [less_one, 1]), [less_one] + [0] * (field.turns - 1) + [1])
            self.assertEqual(least_middle(field, (1, 0, 0)), [1])

    def test_by_position_and_by_name(self):
        check_named(self, least_middle, NAMES, [EIGHT, [1, 1, 1]], [1, 0, 0, 1])
        check_named(self, least_middle, NAMES, [EIGHT, [1, 0, 0, 1]], [1, 0, 0, 1])
        check_named(self, least_middle, NAMES, [EIGHT, (2, 1, 0)], [1, 0, 0, 1])


class ErrorsTest(unittest.TestCase):
    def test_wrong_values(self):
        for field in (EIGHT, NINE):
            for function in (is_middle, least_middle):
                check_wrong(self, function, [
                    ("field", field, WRONG_FIELDS, InvalidField),
                    ("turner", [1, 2], wrong_lists(field, 13), InvalidTurner),
                ])

    def test_nought(self):
        for field in FIELDS:
            for nought in NOUGHTS:
                check_error(self, NoughtTurner, {}, least_middle, field, nought)
                check_error(self, NoughtTurner, {}, least_middle, turner=nought, field=field)
            check_error(self, InvalidTurner, {"value": [0] * 14}, least_middle, field, [0] * 14)
            check_error(self, InvalidField, {"value": None}, least_middle, None, [])


if __name__ == "__main__":
    unittest.main()
