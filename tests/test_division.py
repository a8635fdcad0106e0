"""Points 23 to 26: turn sums divided from either side, common parts, joints."""

import unittest
from itertools import product

from tests.helpers import (
    BIG, EIGHT, FIELDS, FOUR, NINE, TWENTYFIVE, TWENTYSEVEN, WRONG_FIELDS, alike, check_error, check_named,
    check_wrong, plain_put, plain_sum, plain_told_turner, sample, turners_of, wrong_lists,
)
from turnpowers.division import common_inner, common_outer, divided_in, divided_out, is_inner, joint
from turnpowers.errors import InvalidField, InvalidTurner, NoughtTurner, TooMany
from turnpowers.turners import degree, put, worth

SOME = [FOUR, EIGHT, NINE, TWENTYSEVEN, TWENTYFIVE, BIG]
NAMES = ["field", "turner", "other"]


def all_of(field, most):
    """All told turn sums of a degree up to most, but nought."""
    return [list(row) + [head] for many in range(most + 1) for row in product(range(field.size), repeat=many)
            for head in range(1, field.size)]


def parts_of(field, most):
    """For each turn sum of a degree up to most, as a tuple, the sets of all that are inner and outer to it."""
    inner, outer = {}, {}
    for one in all_of(field, most):
        for other in all_of(field, most - len(one) + 1):
            found = tuple(put(field, one, other))
            inner.setdefault(found, set()).add(tuple(other))
            outer.setdefault(found, set()).add(tuple(one))
    return inner, outer


class ExamplesTest(unittest.TestCase):
    def test_divided(self):
        self.assertEqual(divided_in(EIGHT, [3, 4, 1], [4, 1]), ([2, 1], []))
        self.assertEqual(divided_in(EIGHT, [3, 4, 1], [2, 1]), ([0, 1], [3]))
        self.assertEqual(divided_out(EIGHT, [3, 4, 1], [2, 1]), ([4, 1], []))

    def test_parts_and_joints(self):
        self.assertEqual(is_inner(EIGHT, [3, 4, 1], [4, 1]), True)
        self.assertEqual(common_inner(EIGHT, [3, 4, 1], [4, 1]), [4, 1])
        self.assertEqual(common_outer(EIGHT, [3, 4, 1], [2, 1]), [2, 1])
        self.assertEqual(joint(EIGHT, [2, 1], [4, 1]), [1, 1, 1])
        self.assertEqual(common_inner(EIGHT, [], [0]), [])


class DividedTest(unittest.TestCase):
    def check_divided(self, field, turner, other):
        quotient, rest = divided_in(field, turner, other)
        self.check_kind(field, other, quotient, rest)
        self.assertEqual(plain_sum(field, plain_put(field, quotient, other), rest), plain_told_turner(turner))
        self.assertIs(is_inner(field, turner, other), rest == [])
        quotient, rest = divided_out(field, turner, other)
        self.check_kind(field, other, quotient, rest)
        self.assertEqual(plain_sum(field, plain_put(field, other, quotient), rest), plain_told_turner(turner))

    def check_kind(self, field, other, quotient, rest):
        self.assertIs(type(divided_in(field, [1], [1])), tuple)
        self.assertTrue(alike(quotient, plain_told_turner(quotient)))
        self.assertTrue(alike(rest, plain_told_turner(rest)))
        self.assertLess(len(rest), len(plain_told_turner(other)))

    def test_all_of_a_small_field(self):
        for turner in [[]] + all_of(FOUR, 2):
            for other in all_of(FOUR, 1) + [[1, 2, 3], [3, 0, 2]]:
                self.check_divided(FOUR, turner, other)

    def test_others(self):
        for field in SOME:
            for turner in turners_of(field, 5, 2):
                for other in turners_of(field, 4, 9)[2:]:
                    if plain_told_turner(other):
                        self.check_divided(field, turner, tuple(other))

    def test_longest(self):
        for field in (EIGHT, TWENTYSEVEN, BIG):
            turner = sample(field, 12, 5) + [2]
            for many in (1, 2, 6, 12, 13):
                self.check_divided(field, turner, [2] + [1] * (many - 2) + [field.size - 1])

    def test_edges(self):
        for field in FIELDS:
            last = field.size - 1
            for divided in (divided_in, divided_out):
                self.assertEqual(divided(field, [], [1, last]), ([], []))
                self.assertEqual(divided(field, [0, 0], (last,)), ([], []))
                self.assertEqual(divided(field, [1, last], [1, 1, last, 0]), ([], [1, last]))
                self.assertEqual(divided(field, [last, 1, last], [last, 1, last]), ([1], []))
                self.assertEqual(divided(field, (1, last), [1, 0, 0]), ([1, last], []))
                self.assertEqual(divided(field, [1, last, 1, 0], [last])[1], [])
            self.assertIs(is_inner(field, [], [last]), True)
            self.assertIs(is_inner(field, [0, 0], [last, 1]), True)
            self.assertIs(is_inner(field, [1, 2, 3], [last, 0]), True)
            self.assertIs(is_inner(field, [1, 1], [1, 1, 1]), False)

    def test_what_is_put_together_comes_apart(self):
        for field in SOME:
            rows = [row for row in turners_of(field, 3, 8) if plain_told_turner(row)]
            for one in rows:
                for other in rows:
                    both = put(field, one, other)
                    self.assertEqual(divided_in(field, both, other), (plain_told_turner(one), []))
                    self.assertEqual(divided_out(field, both, one), (plain_told_turner(other), []))
                    self.assertIs(is_inner(field, both, other), True)

    def test_inner_ones_of_a_small_field(self):
        inner, _ = parts_of(FOUR, 2)
        for turner in all_of(FOUR, 2):
            for other in all_of(FOUR, 2):
                self.assertIs(is_inner(FOUR, turner, other), tuple(other) in inner[tuple(turner)])

    def test_fact_of_worths(self):
        for other in all_of(EIGHT, 1):
            if is_inner(EIGHT, [3, 4, 1], other):
                for one in range(8):
                    if worth(EIGHT, other, one) == 0:
                        self.assertEqual(worth(EIGHT, [3, 4, 1], one), 0)

    def test_by_position_and_by_name(self):
        check_named(self, divided_in, NAMES, [EIGHT, [3, 4, 1], [2, 1]], ([0, 1], [3]))
        check_named(self, divided_in, NAMES, [EIGHT, [3, 4], [2, 1, 1]], ([], [3, 4]))
        check_named(self, divided_out, NAMES, [EIGHT, (3, 4, 1), (2, 1)], ([4, 1], []))
        check_named(self, divided_out, NAMES, [EIGHT, [3, 4], [2, 1, 1]], ([], [3, 4]))
        check_named(self, is_inner, NAMES, [EIGHT, [3, 4, 1], [4, 1]], True)
        check_named(self, is_inner, NAMES, [EIGHT, [3, 4, 1], [2, 1]], False)


class ErrorsTest(unittest.TestCase):
    def test_wrong_values(self):
        for field in (EIGHT, NINE):
            for function in (divided_in, divided_out, is_inner, common_inner, common_outer, joint):
                check_wrong(self, function, [
                    ("field", field, WRONG_FIELDS, InvalidField),
                    ("turner", [1, 2], wrong_lists(field, 13), InvalidTurner),
                    ("other", [3], wrong_lists(field, 13), InvalidTurner),
                ])

    def test_nought(self):
        for function in (divided_in, divided_out, is_inner, joint):
            for nought in ([], (), [0], (0, 0), [0] * 13):
                for turner in ([], [1], [1, 2, 3], [1] * 13):
                    check_error(self, NoughtTurner, {}, function, EIGHT, turner, nought)
        for nought in ([], [0], (0, 0)):
            check_error(self, NoughtTurner, {}, joint, EIGHT, nought, [1, 2])
            check_error(self, NoughtTurner, {}, joint, EIGHT, nought, [1] * 13)

    def test_nought_behind_the_parameters(self):
        for function in (divided_in, divided_out, is_inner, joint):
            check_error(self, InvalidTurner, {"value": [8]}, function, EIGHT, [8], [])
            check_error(self, InvalidTurner, {"value": [0] * 14}, function, EIGHT, [], [0] * 14)
            check_error(self, InvalidTurner, {"value": [True]}, function, EIGHT, [True], [0])


class CommonTest(unittest.TestCase):
    def test_all_of_a_small_field(self):
        inner, outer = parts_of(FOUR, 2)
        for common, parts in ((common_inner, inner), (common_outer, outer)):
            for turner in all_of(FOUR, 2):
                for other in all_of(FOUR, 2):
                    shared = [one for one in parts[tuple(turner)] & parts[tuple(other)] if one[-1] == 1]
                    most = max(len(one) for one in shared)
                    best = [list(one) for one in shared if len(one) == most]
                    self.assertEqual([common(FOUR, turner, other)], best)

    def test_common_parts_are_found(self):
        for field in SOME:
            for part in turners_of(field, 3, 4)[2:6]:
                one, other = [2, 1, 1], [3, 0, 1]
                found = common_inner(field, put(field, one, part), put(field, other, part))
                self.assertEqual(found[-1], 1)
                self.assertGreaterEqual(len(found), len(plain_told_turner(part)))
                self.assertTrue(is_inner(field, found, part))
                self.assertTrue(is_inner(field, put(field, one, part), found))
                self.assertTrue(is_inner(field, put(field, other, part), found))
                found = common_outer(field, put(field, part, one), put(field, part, other))
                self.assertEqual(found[-1], 1)
                self.assertEqual(divided_out(field, found, part)[1], [])
                self.assertEqual(divided_out(field, put(field, part, one), found)[1], [])
                self.assertEqual(divided_out(field, put(field, part, other), found)[1], [])

    def test_edges(self):
        for field in FIELDS:
            last = field.size - 1
            for common in (common_inner, common_outer):
                for nought in ([], (), [0], [0] * 13):
                    self.assertEqual(common(field, nought, []), [])
                    self.assertEqual(common(field, [0], nought), [])
                    self.assertEqual(common(field, nought, [last]), [1])
                    self.assertEqual(common(field, [last, 0], nought), [1])
                    self.assertEqual(common(field, nought, [last, 1, 1, 0]), [last, 1, 1])
                self.assertEqual(common(field, [last, 1], [last]), [1])
                self.assertEqual(common(field, [1], [0, last]), [1])
                self.assertEqual(common(field, [0, last], [0, 0, last]), [0, 1])
        self.assertEqual(common_inner(EIGHT, [3, 4, 5], []), [6, 3, 1])
        self.assertEqual(common_outer(EIGHT, [3, 4, 5], [0]), plain_put(EIGHT, [3, 4, 5], [4]))

    def test_head_of_a_common_outer_part(self):
        for head in range(1, 27):
            found = common_outer(TWENTYSEVEN, [5, 0, head], [])
            self.assertEqual(found[-1], 1)
            self.assertEqual(divided_out(TWENTYSEVEN, [5, 0, head], found)[1], [])

    def test_longest(self):
        one, other = put(EIGHT, [1] * 12, [3, 1]), put(EIGHT, [2] + [1] * 10 + [5], [3, 1])
        found = common_inner(EIGHT, one, other)
        self.assertTrue(is_inner(EIGHT, found, [3, 1]))
        self.assertTrue(is_inner(EIGHT, one, found) and is_inner(EIGHT, other, found))
        self.assertEqual(common_inner(EIGHT, [1] * 13, [1] * 13), [1] * 13)
        self.assertEqual(common_outer(EIGHT, [1] * 13, [1] * 13), [1] * 13)

    def test_by_position_and_by_name(self):
        check_named(self, common_inner, NAMES, [EIGHT, [3, 4, 1], [4, 1]], [4, 1])
        check_named(self, common_inner, NAMES, [EIGHT, [4, 1], []], [4, 1])
        check_named(self, common_outer, NAMES, [EIGHT, (3, 4, 1), (2, 1)], [2, 1])
        check_named(self, common_outer, NAMES, [EIGHT, [], [2, 1]], [2, 1])


class JointTest(unittest.TestCase):
    def test_all_of_a_small_field(self):
        inner, _ = parts_of(FOUR, 4)
        above = sorted([one for one in inner if one[-1] == 1], key=len)
        for turner in all_of(FOUR, 1) + [[1, 2, 3], [0, 1, 1], [1, 0, 1]]:
            for other in all_of(FOUR, 1) + [[2, 1, 1], [0, 0, 2], [1, 0, 1]]:
                pair = {tuple(turner), tuple(other)}
                both = [list(one) for one in above if pair <= inner[one]]
                self.assertEqual([one for one in both if len(one) == len(both[0])], both[:1])
                found = joint(FOUR, turner, other)
                self.assertTrue(alike(found, both[0]))
                self.assertTrue(all(is_inner(FOUR, one, found) for one in both))

    def test_degrees(self):
        for field in SOME:
            for turner in turners_of(field, 4, 3)[2:]:
                for other in turners_of(field, 4, 11)[2:]:
                    found = joint(field, turner, other)
                    self.assertEqual(found[-1], 1)
                    self.assertTrue(is_inner(field, found, turner) and is_inner(field, found, other))
                    together = degree(field, turner) + degree(field, other)
                    self.assertEqual(degree(field, found) + degree(field, common_inner(field, turner, other)), together)

    def test_edges(self):
        for field in FIELDS:
            last = field.size - 1
            self.assertEqual(joint(field, [last], (1, 0, 0)), [1])
            self.assertEqual(joint(field, [last, 1, 1], [last]), [last, 1, 1])
            self.assertEqual(joint(field, [last], [last, 1, 1]), [last, 1, 1])
            self.assertEqual(joint(field, [0, last], [0, 0, last]), [0, 0, 1])
            self.assertEqual(joint(field, [last, 1], [last, 1]), [last, 1])

    def test_limit(self):
        high = [[1] + [0] * (many - 1) + [1] for many in range(1, 13)]
        for field in (EIGHT, TWENTYSEVEN):
            for one in ([0] * 6 + [1], [1] * 7):
                found = joint(field, one, [1] + [0] * 5 + [2])
                self.assertEqual(len(found), 14 - len(common_inner(field, one, [1] + [0] * 5 + [2])))
            check_error(self, TooMany, {"what": "degree", "limit": 12}, joint, field, [0] * 6 + [1], high[6])
            check_error(self, TooMany, {"what": "degree", "limit": 12}, joint, field, high[11], [0, 1])
            check_error(self, TooMany, {"what": "degree", "limit": 12}, joint, field, (0, 1), tuple(high[11]))
            check_error(self, TooMany, {"what": "degree", "limit": 12}, joint, field, [0] * 12 + [1], high[11])
            self.assertEqual(len(joint(field, [0] * 6 + [1], high[5])), 13)
            self.assertEqual(joint(field, [1] * 13, [1] * 13), [1] * 13)
            self.assertEqual(joint(field, [1] * 13, [1] + [0] * 12), [1] * 13)

    def test_limit_hangs_on_the_degree_of_the_joint(self):
        # Of the degrees 7 and 6 with a common inner part of the degree 1.
        part = [3, 1]
        one, other = put(EIGHT, [0] * 6 + [1], part), put(EIGHT, [1, 0, 0, 0, 0, 1], part)
        self.assertEqual([degree(EIGHT, one), degree(EIGHT, other)], [7, 6])
        self.assertEqual(common_inner(EIGHT, one, other), part)
        found = joint(EIGHT, one, other)
        self.assertEqual(degree(EIGHT, found), 12)
        self.assertTrue(is_inner(EIGHT, found, one) and is_inner(EIGHT, found, other))
        check_error(self, TooMany, {"what": "degree", "limit": 12}, joint, EIGHT, put(EIGHT, [0] * 7 + [1], part), other)

    def test_by_position_and_by_name(self):
        check_named(self, joint, NAMES, [EIGHT, [2, 1], [4, 1]], [1, 1, 1])
        check_named(self, joint, NAMES, [EIGHT, (2, 1), (1,)], [2, 1])
        check_named(self, joint, NAMES, [EIGHT, [1], [2, 1]], [2, 1])


if __name__ == "__main__":
    unittest.main()
