"""Points 41 to 43: roots, the turn sums of spaces, full turn sums."""

import unittest

from tests.helpers import (
    BIG, EIGHT, EIGHTYONE, FIELDS, FORTYNINE, FOUR, NINE, OTHER_EIGHT, SIXTEEN, TWENTYFIVE, TWENTYSEVEN,
    WRONG_FIELDS, WRONG_SPACES, alike, check_error, check_named, check_wrong, plain_minus, plain_power, plain_put,
    plain_told_turner, plain_times, plain_worth, sample, turners_of, wrong_lists,
)
from turnpowers.division import is_inner
from turnpowers.errors import InvalidField, InvalidSpace, InvalidTurner, NoughtTurner
from turnpowers.lots import spaces_of
from turnpowers.roots import is_full, roots, space_turner
from turnpowers.spaces import Space, is_within
from turnpowers.turners import put, scaled

NAMES = ["field", "turner"]
NOUGHTS = [[], (), [0], (0, 0), [0] * 13]


def whole_of(field):
    """The Space of all elements."""
    return Space(field, [field.prime ** at for at in range(field.turns)])


def some_spaces(field):
    """Some spaces of all kinds of dimensions."""
    lots = [[], [1], [field.size - 1]] + [sample(field, many, start) for many in (1, 2, 3, 5) for start in (2, 7)]
    return [Space(field, some) for some in lots] + [whole_of(field)]


def plain_roots(field, turner):
    """The sorted list of all elements at which the worth is 0."""
    return [one for one in range(field.size) if plain_worth(field, turner, one) == 0]


class ExamplesTest(unittest.TestCase):
    def test_space_turner(self):
        self.assertEqual([space_turner(Space(EIGHT, [2, 4])), space_turner(Space(EIGHT, []))], [[1, 1, 1], [1]])
        self.assertEqual(Space(EIGHT, [2, 4]).listed(), [0, 2, 4, 6])

    def test_roots(self):
        self.assertIs(roots(EIGHT, [1, 1, 1]) == Space(EIGHT, [6, 4]), True)
        self.assertEqual([is_full(EIGHT, [3, 3, 3]), is_full(EIGHT, [0, 1])], [True, False])
        self.assertEqual(roots(EIGHT, [0, 1]).dimension, 0)


class SpaceTurnerTest(unittest.TestCase):
    def check_space(self, space):
        found, field = space_turner(space), space.field()
        self.assertTrue(alike(found, plain_told_turner(found)))
        self.assertEqual([len(found) - 1, found[-1]], [space.dimension, 1])
        self.assertEqual(plain_roots(field, found), space.listed())
        self.assertTrue(roots(field, found) == space)
        self.assertIs(is_full(field, found), True)
        # The one of all sums of the space is the product of x less each of its elements.
        for one in [0, 1, field.size - 1] + sample(field, 2, 3):
            product = 1
            for held in space.listed():
                product = plain_times(field, product, plain_minus(field, one, held))
            self.assertEqual(plain_worth(field, found, one), product)

    def test_all_of_small_fields(self):
        for field in (FOUR, EIGHT, OTHER_EIGHT, NINE, TWENTYFIVE):
            for many in range(field.turns + 1):
                for space in spaces_of(field, many):
                    self.check_space(space)

    def test_others(self):
        for field in (SIXTEEN, TWENTYSEVEN, FORTYNINE):
            for space in some_spaces(field):
                self.check_space(space)

    def test_edges(self):
        for field in FIELDS:
            self.assertEqual(space_turner(Space(field, [])), [1])
            less_one = field.prime - 1
            self.assertEqual(space_turner(whole_of(field)), [less_one] + [0] * (field.turns - 1) + [1])
            self.assertEqual(space_turner(Space(field, [1])), [less_one, 1])

    def test_step_of_point_42(self):
        for field in (EIGHT, NINE, TWENTYFIVE, BIG):
            some = [field.prime ** at for at in range(field.turns)]
            for many in range(field.turns):
                found = space_turner(Space(field, some[:many]))
                factor = plain_power(field, plain_worth(field, found, some[many]), field.prime - 1)
                expected = plain_put(field, [plain_minus(field, 0, factor), 1], found)
                self.assertEqual(space_turner(Space(field, some[:many + 1])), expected)

    def test_inner_to_all_that_are_nought_there(self):
        for field in (FOUR, EIGHT, NINE, TWENTYSEVEN):
            for turner in turners_of(field, 5, 3)[2:]:
                if plain_told_turner(turner):
                    self.assertTrue(is_inner(field, turner, space_turner(roots(field, turner))))

    def test_wrong_values(self):
        check_wrong(self, space_turner, [("space", Space(EIGHT, [1]), WRONG_SPACES, InvalidSpace)])
        check_named(self, space_turner, ["space"], [Space(EIGHT, [2, 4])], [1, 1, 1])
        check_named(self, space_turner, ["space"], [Space(EIGHT, [])], [1])


class RootsTest(unittest.TestCase):
    def check_roots(self, field, turner):
        found, told = roots(field, turner), plain_told_turner(turner)
        self.assertIs(type(found), Space)
        self.assertTrue(found.field() == field)
        self.assertEqual(found.listed(), plain_roots(field, turner))
        self.assertLessEqual(found.dimension, len(told) - 1)
        self.assertIs(is_full(field, turner), field.prime ** (len(told) - 1) == len(found.listed()))
        if is_full(field, turner):
            self.assertEqual(scaled(field, space_turner(found), told[-1]), told)

    def test_all_of_small_fields(self):
        for field in (FOUR, EIGHT):
            for first in range(field.size):
                for second in range(field.size):
                    for head in range(1, 4):
                        self.check_roots(field, [first, second, head])
                    self.check_roots(field, (1, second, first, 0))

    def test_others(self):
        for field in (FOUR, NINE, SIXTEEN, TWENTYSEVEN, TWENTYFIVE, FORTYNINE):
            for turner in turners_of(field, 4, 2)[2:] + [sample(field, 12, 1) + [2]]:
                self.check_roots(field, turner)

    def test_longest(self):
        for field in FIELDS:
            for turns in (1, 2):
                if field.turns * turns <= 12:
                    turner = [field.prime - 1] + [0] * (field.turns * turns - 1) + [1]
                    self.assertTrue(roots(field, turner) == whole_of(field))
                    self.assertIs(is_full(field, turner), turns == 1)
        for turner in ([1] * 13, [0] * 12 + [3], (2,) + (1,) * 12):
            self.check_roots(EIGHT, turner)
            self.check_roots(EIGHTYONE, turner)

    def test_edges(self):
        for field in FIELDS:
            last = field.size - 1
            for turner in ([1], [last], (last, 0), [last] + [0] * 12):
                self.assertTrue(roots(field, turner) == Space(field, []))
                self.assertIs(is_full(field, turner), True)
            for turner in ([0, 1], [0, last, 0], (0, 0, 1), [0] * 12 + [last]):
                self.assertTrue(roots(field, turner) == Space(field, []))
                self.assertIs(is_full(field, turner), False)
            # What is put into x turned once has the same roots, but is of a degree more.
            turner = put(field, [0, 1], [field.prime - 1, 1])
            self.assertEqual(roots(field, turner).steps(), [1])
            self.assertIs(is_full(field, turner), False)
            self.assertIs(is_full(field, [field.prime - 1, 1, 0, 0]), True)

    def test_inner_to_a_full_one(self):
        for field in (EIGHT, NINE):
            spaces = [space for many in range(field.turns + 1) for space in spaces_of(field, many)]
            for space in spaces:
                for other in spaces:
                    inner = is_inner(field, space_turner(other), space_turner(space))
                    self.assertIs(inner, is_within(space, other))

    def test_by_position_and_by_name(self):
        check_named(self, roots, NAMES, [EIGHT, [1, 1, 1]], Space(EIGHT, [2, 4]))
        check_named(self, roots, NAMES, [EIGHT, (1, 1, 1, 0)], Space(EIGHT, [2, 4]))
        check_named(self, is_full, NAMES, [EIGHT, [1, 1, 1]], True)
        check_named(self, is_full, NAMES, [EIGHT, (0, 1)], False)


class ErrorsTest(unittest.TestCase):
    def test_wrong_values(self):
        for field in (EIGHT, NINE):
            for function in (roots, is_full):
                check_wrong(self, function, [
                    ("field", field, WRONG_FIELDS, InvalidField),
                    ("turner", [1, 2], wrong_lists(field, 13), InvalidTurner),
                ])

    def test_nought(self):
        for field in FIELDS:
            for function in (roots, is_full):
                for nought in NOUGHTS:
                    check_error(self, NoughtTurner, {}, function, field, nought)
                    check_error(self, NoughtTurner, {}, function, turner=nought, field=field)
                check_error(self, InvalidTurner, {"value": [0] * 14}, function, field, [0] * 14)
                check_error(self, InvalidField, {"value": None}, function, None, [])


if __name__ == "__main__":
    unittest.main()
