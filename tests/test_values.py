"""Point 51: turn sums through points."""

import unittest
from itertools import product

from tests.helpers import (
    EIGHT, FIELDS, FOUR, NINE, TWENTYFIVE, WRONG_FIELDS, alike, check_error, check_named, check_wrong, free_lots,
    plain_told_turner, plain_turned, plain_worth, sample, turners_of, wrong_lists, wrong_ones,
)
from turnpowers.elements import are_free
from turnpowers.errors import InvalidElements, InvalidField, InvalidPoints
from turnpowers.roots import space_turner
from turnpowers.spaces import Space
from turnpowers.values import through

NAMES = ["field", "points", "worths"]


class ExamplesTest(unittest.TestCase):
    def test_through(self):
        self.assertEqual([through(EIGHT, [1, 2], [1, 4]), through(EIGHT, [5], [0])], [[0, 1], []])
        self.assertEqual(through(EIGHT, [1, 2, 4], [1, 2, 4]), [1])


class ThroughTest(unittest.TestCase):
    def check_through(self, field, points, worths):
        found = through(field, points, worths)
        self.assertTrue(alike(found, plain_told_turner(found)))
        self.assertLessEqual(len(found), len(points))
        self.assertEqual([plain_worth(field, found, one) for one in points], list(worths))

    def test_just_one_of_a_small_field(self):
        for points in product(range(4), repeat=2):
            if are_free(FOUR, points):
                made = {}
                for turner in product(range(4), repeat=2):
                    worths = tuple(plain_worth(FOUR, turner, one) for one in points)
                    made.setdefault(worths, []).append(plain_told_turner(turner))
                self.assertEqual(len(made), 16)
                for worths, found in made.items():
                    self.assertEqual([through(FOUR, points, worths)], found)

    def test_all_fields(self):
        for field in FIELDS:
            lots = free_lots(field)
            self.assertEqual({len(points) for points in lots}, set(range(1, field.turns + 1)))
            for points in lots:
                for start in (1, 4):
                    self.check_through(field, points, tuple(sample(field, len(points), start)))
                self.check_through(field, tuple(points), [field.size - 1] * len(points))

    def test_what_has_the_worths_comes_back(self):
        for field in (EIGHT, NINE, TWENTYFIVE):
            points = free_lots(field)[-1]
            for turner in turners_of(field, len(points), 3):
                worths = [plain_worth(field, turner, one) for one in points]
                self.assertEqual(through(field, points, worths), plain_told_turner(turner))

    def test_noughts(self):
        for field in FIELDS:
            for points in free_lots(field):
                self.assertEqual(through(field, points, [0] * len(points)), [])
                # 0 at all points but the last one: a multiple of the turn sum of these.
                found = through(field, points, [0] * (len(points) - 1) + [1])
                space = Space(field, points[:-1])
                self.assertEqual(len(found), len(points))
                self.assertEqual(plain_worth(field, space_turner(space), points[-1]) == 0, False)
                self.assertTrue(all(plain_worth(field, found, one) == 0 for one in space.listed()))

    def test_one_point_alone(self):
        for field in (FOUR, EIGHT, NINE):
            for point in range(1, field.size):
                for one in range(field.size):
                    self.check_through(field, [point], (one,))

    def test_as_many_points_as_turns(self):
        for field in FIELDS:
            points = [field.prime ** at for at in range(field.turns)]
            self.assertEqual(through(field, points, points), [1])
            last = [plain_turned(field, one, field.turns - 1) for one in points]
            self.assertEqual(through(field, points, last), [0] * (field.turns - 1) + [1])

    def test_by_position_and_by_name(self):
        check_named(self, through, NAMES, [EIGHT, [1, 2], [1, 4]], [0, 1])
        check_named(self, through, NAMES, [EIGHT, (1, 2), (1, 4)], [0, 1])
        check_named(self, through, NAMES, [EIGHT, [5], (0,)], [])
        check_named(self, through, NAMES, [EIGHT, [1], [3]], [3])


class ErrorsTest(unittest.TestCase):
    def wrong_points(self, field):
        tied = [[0], (0,), [1, 1], [1, 0], (0, 1), [2, 2], [1] * field.turns, list(range(field.turns))]
        if field.prime > 2:
            tied += [[1, 2], (2, 1)]
        if field.turns > 2:
            tied += [[2, 4, 2], [1, 2, 3]]
        return tied + [[], ()] + wrong_lists(field, field.turns)

    def test_wrong_values(self):
        for field in (EIGHT, NINE, FOUR, TWENTYFIVE):
            points = [1, field.prime]
            check_wrong(self, through, [
                ("field", field, WRONG_FIELDS, InvalidField),
                ("points", points, self.wrong_points(field), InvalidPoints),
                ("worths", [1, 1], wrong_lists(field, 2) + [[], (), [1], (0,), [1, 1, 1]], InvalidElements),
            ])
            for one in wrong_ones(field):
                check_error(self, InvalidElements, {"value": [1, one]}, through, field, points, [1, one])

    def test_as_many_worths_as_points(self):
        for field in FIELDS:
            points = [field.prime ** at for at in range(field.turns)]
            for many in range(1, field.turns + 1):
                for other in range(field.turns + 2):
                    if many != other:
                        worths = [1] * other
                        check_error(self, InvalidElements, {"value": worths}, through, field, points[:many], worths)

    def test_more_points_than_turns(self):
        for field in FIELDS:
            points = [field.prime ** at for at in range(field.turns)] + [field.size - 1]
            check_error(self, InvalidPoints, {"value": points}, through, field, points, [1] * len(points))
            check_error(self, InvalidPoints, {"value": tuple(points)}, through, field, tuple(points), None)


if __name__ == "__main__":
    unittest.main()
