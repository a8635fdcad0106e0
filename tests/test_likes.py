"""Point 64: like elements."""

import unittest

from tests.helpers import (
    EIGHT, FIELDS, FORTYNINE, FOUR, GREAT, NINE, SIXTEEN, TWENTYFIVE, TWENTYSEVEN, WRONG_FIELDS, alike, check_named,
    check_new, check_wrong, plain_power, plain_put, plain_times, wrong_ones,
)
from turnpowers.elements import norm, turned
from turnpowers.errors import InvalidElement, InvalidField
from turnpowers.likes import are_like, is_like_by, like_by, like_lots

SOME = [FOUR, EIGHT, SIXTEEN, NINE, TWENTYSEVEN, TWENTYFIVE]
NAMES = ["field", "one", "other"]


def factors_of(field):
    """For each element that is not 0, its power that is the prime less one."""
    return {one: plain_power(field, one, field.prime - 1) for one in range(1, field.size)}


def plain_leads(field, factors, one, other):
    """The list of all elements, not 0, that lead the one to the other."""
    return [lead for lead, factor in factors.items() if plain_times(field, one, factor) == other]


class ExamplesTest(unittest.TestCase):
    def test_examples(self):
        self.assertEqual([is_like_by(EIGHT, 2, 5, 7), like_by(EIGHT, 2, 5), like_by(EIGHT, 2, 0)], [True, 7, None])
        self.assertEqual([like_lots(EIGHT), are_like(NINE, 1, 2)], [[[0], [1, 2, 3, 4, 5, 6, 7]], True])
        self.assertEqual(like_lots(NINE), [[0], [1, 2, 3, 6], [4, 5, 7, 8]])


class LikeTest(unittest.TestCase):
    def check_two(self, field, factors, one, other):
        leads, found = plain_leads(field, factors, one, other), like_by(field, one, other)
        if leads:
            self.assertIs(type(found), int)
            self.assertIn(found, leads)
        else:
            self.assertIsNone(found)
        self.assertEqual(like_by(field, one, other), found)
        self.assertIs(are_like(field, one, other), leads != [])
        told = [value for value in range(field.size) if is_like_by(field, one, other, value)]
        self.assertEqual(told, leads)

    def test_all_of_small_fields(self):
        for field in (FOUR, EIGHT, NINE, SIXTEEN):
            factors = factors_of(field)
            for one in range(field.size):
                for other in range(field.size):
                    self.check_two(field, factors, one, other)

    def test_others(self):
        for field in FIELDS:
            factors = factors_of(field)
            for one in (0, 1, 3, field.size - 1):
                for other in (0, 1, 2, field.size // 2, field.size - 1):
                    self.check_two(field, factors, one, other)

    def test_norms(self):
        for field in SOME + [FORTYNINE]:
            for one in range(1, field.size):
                for other in (0, 1, 2, field.size - 1):
                    expected = other != 0 and norm(field, one) == norm(field, other)
                    self.assertIs(are_like(field, one, other), expected)

    def test_what_leads(self):
        for field in SOME:
            for one, other in ((1, field.size - 1), (2, 3), (3, 3), (0, 0)):
                lead = like_by(field, one, other)
                if lead is not None:
                    minus = [plain_times(field, field.prime - 1, value) for value in (one, other)]
                    left = plain_put(field, [minus[1], 1], [lead])
                    right = plain_put(field, [turned(field, lead, 1)], [minus[0], 1])
                    self.assertEqual(left, right)

    def test_nought(self):
        for field in FIELDS:
            self.assertTrue(1 <= like_by(field, 0, 0) < field.size)
            self.assertIs(are_like(field, 0, 0), True)
            self.assertTrue(all(is_like_by(field, 0, 0, value) for value in range(1, field.size)))
            self.assertIs(is_like_by(field, 0, 0, 0), False)
            for one in (1, field.size - 1):
                self.assertEqual([like_by(field, 0, one), like_by(field, one, 0)], [None, None])
                self.assertEqual([are_like(field, 0, one), are_like(field, one, 0)], [False, False])
                self.assertIs(is_like_by(field, one, 0, 0), False)
                self.assertIs(is_like_by(field, one, one, 0), False)
                self.assertIs(is_like_by(field, one, one, 1), True)

    def test_any_value(self):
        for field in FIELDS:
            for one in (0, 1, 2):
                others = [0, (), [0, 1], (1, 2), -2, GREAT + 1, 10 ** 600, b"1", Ellipsis, like_by]
                for value in wrong_ones(field) + others:
                    self.assertIs(is_like_by(field, one, one, value), False)
                    self.assertIs(is_like_by(field, one, (one + 1) % field.size, value), False)

    def test_prime_two(self):
        for field in FIELDS:
            if field.prime == 2:
                for one in range(1, field.size, 5):
                    for other in range(1, field.size, 7):
                        lead = like_by(field, one, other)
                        self.assertEqual(plain_times(field, one, lead), other)

    def test_by_position_and_by_name(self):
        check_named(self, like_by, NAMES, [EIGHT, 2, 5], 7)
        check_named(self, like_by, NAMES, [NINE, 1, 4], None)
        check_named(self, are_like, NAMES, [NINE, 1, 2], True)
        check_named(self, are_like, NAMES, [NINE, 1, 4], False)
        check_named(self, is_like_by, NAMES + ["value"], [EIGHT, 2, 5, 7], True)
        check_named(self, is_like_by, NAMES + ["value"], [EIGHT, 2, 5, [7]], False)


class LotsTest(unittest.TestCase):
    def test_all_fields(self):
        for field in FIELDS:
            lots = {}
            for one in range(field.size):
                lots.setdefault((one == 0, norm(field, one)), []).append(one)
            self.assertTrue(alike(like_lots(field), sorted(lots.values())))
            self.assertEqual(len(like_lots(field)), field.prime)

    def test_like_are_in_one_lot(self):
        for field in (FOUR, EIGHT, NINE, TWENTYFIVE):
            for lot in like_lots(field):
                for one in lot:
                    found = [other for other in range(field.size) if are_like(field, one, other)]
                    self.assertEqual(found, lot)

    def test_new_lists(self):
        check_named(self, like_lots, ["field"], [NINE], [[0], [1, 2, 3, 6], [4, 5, 7, 8]])
        found = like_lots(NINE)
        found[1].append(9)
        check_new(self, like_lots(NINE), [found])
        self.assertEqual(like_lots(NINE), [[0], [1, 2, 3, 6], [4, 5, 7, 8]])


class ErrorsTest(unittest.TestCase):
    def test_wrong_values(self):
        for field in (EIGHT, NINE):
            rows = [
                ("field", field, WRONG_FIELDS, InvalidField),
                ("one", 3, wrong_ones(field), InvalidElement),
                ("other", 1, wrong_ones(field), InvalidElement),
            ]
            for function in (like_by, are_like):
                check_wrong(self, function, rows)
            for value in (7, None, "1"):
                check_wrong(self, is_like_by, rows + [("value", value, [], None)])
            check_wrong(self, like_lots, rows[:1])


if __name__ == "__main__":
    unittest.main()
