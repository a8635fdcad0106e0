"""Points 7, 21 and 22: turn sums told, reckoned with, put into one another, and their worths."""

import unittest

from tests.helpers import (
    BIG, EIGHT, FIELDS, FOUR, NINE, SIXTEEN, TWENTYFIVE, TWENTYSEVEN, WRONG_FIELDS, alike, check_error, check_named,
    check_wrong, plain_plus, plain_put, plain_sum, plain_times, plain_told_turner, plain_worth, sample, turners_of,
    wrong_lists, wrong_ones,
)
from turnpowers.elements import plus, times
from turnpowers.errors import InvalidElement, InvalidField, InvalidTurner, TooMany
from turnpowers.turners import degree, is_turner, less, put, scaled, sum_of, told, worth

SOME = [FOUR, EIGHT, SIXTEEN, NINE, TWENTYSEVEN, TWENTYFIVE, BIG]
LONGEST = [1, 2, 3, 0, 1, 2, 3, 0, 1, 2, 3, 0, 1]


class ExamplesTest(unittest.TestCase):
    def test_put_and_told(self):
        self.assertEqual([put(EIGHT, [2, 1], [4, 1]), put(EIGHT, [4, 1], [2, 1])], [[3, 4, 1], [3, 0, 1]])
        self.assertEqual([told(EIGHT, (3, 0, 0)), degree(EIGHT, [0, 0])], [[3], -1])
        self.assertEqual(sum_of(EIGHT, [2, 1], [3, 1, 5]), [1, 0, 5])

    def test_worths(self):
        self.assertEqual([worth(EIGHT, [1, 1, 1], 2), worth(EIGHT, [1, 1, 1], 1)], [0, 1])
        self.assertEqual([scaled(EIGHT, [1, 2], 4), less(EIGHT, [5, 1], [5, 1])], [[4, 3], []])


class ToldTest(unittest.TestCase):
    def test_is_turner(self):
        for field in FIELDS:
            for value in ([], (), [0], [0] * 13, (1,) * 13, LONGEST, [field.size - 1], [0, 1, 0]):
                check_named(self, is_turner, ["field", "value"], [field, value], True)
            for value in wrong_lists(field, 13) + [[0] * 14, (1,) * 14, [1] * 13 + [0]]:
                check_named(self, is_turner, ["field", "value"], [field, value], False)

    def test_told_and_degree(self):
        for field in FIELDS:
            rows = turners_of(field, 13, 3) + [[0] * 13, [1] + [0] * 12, LONGEST, (0, 1, 0), (), (0,), tuple(LONGEST)]
            for row in rows:
                expected = plain_told_turner(row)
                check_named(self, told, ["field", "turner"], [field, row], expected)
                check_named(self, degree, ["field", "turner"], [field, row], len(expected) - 1)

    def test_wrong_values(self):
        for field in (EIGHT, NINE):
            for function in (told, degree):
                check_wrong(self, function, [
                    ("field", field, WRONG_FIELDS, InvalidField),
                    ("turner", [1, 2], wrong_lists(field, 13), InvalidTurner),
                ])
            for value in ([1], None):
                rows = [("field", field, WRONG_FIELDS, InvalidField), ("value", value, [], None)]
                check_wrong(self, is_turner, rows)


class ReckonedTest(unittest.TestCase):
    def test_sums(self):
        for field in SOME:
            for turner in turners_of(field, 4, 1) + [LONGEST]:
                for other in turners_of(field, 4, 2) + [tuple(turner), LONGEST]:
                    self.assertTrue(alike(sum_of(field, turner, other), plain_sum(field, turner, other)))
                    self.assertTrue(alike(less(field, turner, other), plain_sum(field, turner, other, -1)))

    def test_scaled(self):
        for field in SOME:
            for turner in turners_of(field, 5, 4) + [tuple(LONGEST), ()]:
                for one in [0, 1] + sample(field, 4, 5):
                    expected = plain_told_turner([plain_times(field, one, part) for part in turner])
                    self.assertTrue(alike(scaled(field, turner, one), expected))

    def test_edges(self):
        self.assertEqual(sum_of(EIGHT, [], []), [])
        self.assertEqual(sum_of(EIGHT, [0, 0], (0,)), [])
        self.assertEqual(sum_of(EIGHT, [1, 5], [0, 5, 0]), [1])
        self.assertEqual(less(NINE, [], [1, 0, 5]), [2, 0, 7])
        self.assertEqual(less(NINE, [1, 0, 5, 0], []), [1, 0, 5])
        self.assertEqual(less(NINE, [0] * 13, [0]), [])
        self.assertEqual(scaled(EIGHT, [1, 2, 0], 0), [])
        self.assertEqual(scaled(EIGHT, LONGEST, 1), LONGEST)

    def test_by_position_and_by_name(self):
        check_named(self, sum_of, ["field", "turner", "other"], [EIGHT, [2, 1], [3, 1, 5]], [1, 0, 5])
        check_named(self, sum_of, ["field", "turner", "other"], [EIGHT, [2, 1], []], [2, 1])
        check_named(self, sum_of, ["field", "turner", "other"], [EIGHT, [], [2, 1]], [2, 1])
        check_named(self, less, ["field", "turner", "other"], [EIGHT, (2, 1), (3, 1, 5)], [1, 0, 5])
        check_named(self, less, ["field", "turner", "other"], [EIGHT, [2, 1], []], [2, 1])
        check_named(self, scaled, ["field", "turner", "one"], [EIGHT, [1, 2], 4], [4, 3])
        check_named(self, scaled, ["field", "turner", "one"], [EIGHT, [1, 2], 1], [1, 2])

    def test_wrong_values(self):
        for field in (EIGHT, NINE):
            for function in (sum_of, less, put):
                check_wrong(self, function, [
                    ("field", field, WRONG_FIELDS, InvalidField),
                    ("turner", [1, 2], wrong_lists(field, 13), InvalidTurner),
                    ("other", [3], wrong_lists(field, 13), InvalidTurner),
                ])
            for function in (scaled, worth):
                check_wrong(self, function, [
                    ("field", field, WRONG_FIELDS, InvalidField),
                    ("turner", [1, 2], wrong_lists(field, 13), InvalidTurner),
                    ("one", 3, wrong_ones(field), InvalidElement),
                ])


class PutTest(unittest.TestCase):
    def test_by_its_sums(self):
        for field in SOME:
            for turner in turners_of(field, 4, 1) + [(0, 1), (1, 0)]:
                for other in turners_of(field, 4, 6) + [(0, 1), ()]:
                    self.assertTrue(alike(put(field, turner, other), plain_put(field, turner, other)))

    def test_facts(self):
        for field in SOME:
            rows = turners_of(field, 3, 2)
            for turner in rows:
                for other in rows:
                    found = put(field, turner, other)
                    degrees = [degree(field, turner), degree(field, other)]
                    self.assertEqual(degree(field, found), -1 if -1 in degrees else sum(degrees))
                    for one in [0, 1] + sample(field, 3, 1):
                        inner = worth(field, other, one)
                        self.assertEqual(worth(field, found, one), worth(field, turner, inner))
                    third = rows[3]
                    self.assertEqual(put(field, turner, put(field, other, third)), put(field, found, third))

    def test_limit(self):
        for one, other in ((0, 12), (12, 0), (6, 6), (5, 7), (11, 1)):
            turner, beside = [1] * one + [2], [3] * other + [1]
            found = put(EIGHT, turner, beside)
            self.assertEqual(found, plain_put(EIGHT, turner, beside))
            self.assertEqual(degree(EIGHT, found), 12)
        for one, other in ((12, 12), (6, 7), (7, 6), (12, 1), (1, 12)):
            turner, beside = [1] * one + [2], tuple([3] * other + [1])
            check_error(self, TooMany, {"what": "degree", "limit": 12}, put, EIGHT, turner, beside)

    def test_noughts_do_not_count(self):
        long_one = [2, 1] + [0] * 11
        self.assertEqual(put(EIGHT, long_one, [4, 1] + [0] * 11), [3, 4, 1])
        self.assertEqual(put(EIGHT, [1] * 13, [0] * 13), [])
        self.assertEqual(put(EIGHT, [], [1] * 13), [])
        self.assertEqual(put(EIGHT, [0], ()), [])
        self.assertEqual(put(EIGHT, [1] * 12 + [0], [0, 1, 0]), [0] + [1] * 12)

    def test_limit_last(self):
        check_error(self, InvalidTurner, {"value": [1] * 14}, put, EIGHT, [1] * 14, [1] * 13)
        check_error(self, InvalidTurner, {"value": [1] * 14}, put, EIGHT, [1] * 13, [1] * 14)

    def test_by_position_and_by_name(self):
        check_named(self, put, ["field", "turner", "other"], [EIGHT, [2, 1], [4, 1]], [3, 4, 1])
        check_named(self, put, ["field", "turner", "other"], [EIGHT, (1,), (4, 1)], [4, 1])
        check_named(self, put, ["field", "turner", "other"], [EIGHT, [4, 1], [1]], [4, 1])


class WorthTest(unittest.TestCase):
    def test_worths(self):
        for field in SOME:
            ones = range(field.size) if field.size <= 16 else [0, 1] + sample(field, 5, 2)
            for turner in turners_of(field, 4, 5):
                for one in ones:
                    self.assertTrue(alike(worth(field, turner, one), plain_worth(field, turner, one)))
                    self.assertEqual(worth(field, tuple(turner), one), worth(field, turner, one))

    def test_edges(self):
        for field in FIELDS:
            last = field.size - 1
            self.assertEqual([worth(field, [], last), worth(field, [0] * 13, last), worth(field, (1,), last)], [0, 0, last])
            self.assertEqual(worth(field, [0] * 12 + [1], last), plain_worth(field, [0] * (12 % field.turns) + [1], last))
            self.assertEqual(worth(field, [3 % field.size] * 13, 0), 0)

    def test_facts(self):
        for field in SOME:
            for turner in turners_of(field, 3, 7):
                for one in sample(field, 3, 3):
                    for other in sample(field, 3, 4):
                        parts = [worth(field, turner, one), worth(field, turner, other)]
                        self.assertEqual(worth(field, turner, plus(field, one, other)), plus(field, *parts))
                        both = worth(field, sum_of(field, turner, [other, one]), one)
                        self.assertEqual(both, plain_plus(field, parts[0], worth(field, [other, one], one)))
                    for figure in range(field.prime):
                        found = worth(field, turner, times(field, figure, one))
                        self.assertEqual(found, times(field, figure, worth(field, turner, one)))

    def test_by_position_and_by_name(self):
        check_named(self, worth, ["field", "turner", "one"], [EIGHT, [1, 1, 1], 1], 1)
        check_named(self, worth, ["field", "turner", "one"], [EIGHT, (1, 1, 1), 2], 0)


if __name__ == "__main__":
    unittest.main()
