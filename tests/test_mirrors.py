"""Points 55 and 56: Dickson's tables and mirrors."""

import unittest
from itertools import product

from tests.helpers import (
    BIG, EIGHT, EIGHTYONE, FIELDS, FORTYNINE, FOUR, NINE, OTHER_EIGHT, SIXTEEN, TWENTYFIVE, TWENTYSEVEN,
    WRONG_FIELDS, alike, check_named, check_wrong, plain_plus, plain_put, plain_times, plain_told_turner,
    plain_turned, plain_worth, sample, turners_of, wrong_lists,
)
from turnpowers.errors import InvalidField, InvalidTurner
from turnpowers.maps import as_map, map_rank
from turnpowers.mirrors import dickson, mirror
from turnpowers.moore import element_rank

SOME = [FOUR, EIGHT, OTHER_EIGHT, SIXTEEN, NINE, TWENTYSEVEN, TWENTYFIVE, FORTYNINE, EIGHTYONE, BIG]
NAMES = ["field", "turner"]
NOUGHTS = [[], (), [0], (0, 0), [0] * 13]


def rows_for(field):
    """Turn sums of all kinds, some of degrees from the turns on."""
    longest = sample(field, 12, 3) + [2]
    return turners_of(field, 5, 4) + [longest, tuple(longest), [1] * 13, [0] * 12 + [1]]


def plain_trace(field, one):
    """The sum of the element turned 0, 1, .. times."""
    total = 0
    for many in range(field.turns):
        total = plain_plus(field, total, plain_turned(field, one, many))
    return total


def plain_row(field, turner):
    """The numbers as a map, as many as the turns."""
    found = [0] * field.turns
    for at, one in enumerate(turner):
        found[at % field.turns] = plain_plus(field, found[at % field.turns], one)
    return found


def are_mirrors(field, turner, other):
    """Whether both have the same traces, of one's worth times the other element, at free x and y."""
    units = [field.prime ** at for at in range(field.turns)]
    worths = [plain_worth(field, turner, one) for one in units]
    beside = [plain_worth(field, other, one) for one in units]
    for at, one in enumerate(units):
        for place, other_one in enumerate(units):
            left = plain_trace(field, plain_times(field, worths[at], other_one))
            if left != plain_trace(field, plain_times(field, one, beside[place])):
                return False
    return True


class ExamplesTest(unittest.TestCase):
    def test_examples(self):
        self.assertEqual(dickson(EIGHT, [2, 1]), [[2, 1, 0], [0, 4, 1], [1, 0, 6]])
        self.assertEqual([mirror(EIGHT, [0, 2]), mirror(EIGHT, [3]), mirror(EIGHT, [0] * 4)], [[0, 0, 6], [3], []])


class DicksonTest(unittest.TestCase):
    def test_numbers(self):
        for field in FIELDS:
            for turner in rows_for(field):
                row, many = plain_row(field, turner), field.turns
                expected = [[plain_turned(field, row[(beside - at) % many], at) for beside in range(many)]
                            for at in range(many)]
                self.assertTrue(alike(dickson(field, turner), expected))

    def test_rank(self):
        for field in SOME:
            for turner in rows_for(field) + [[1] * field.turns, [field.prime - 1, 1]]:
                self.assertEqual(element_rank(field, dickson(field, turner)), map_rank(field, turner))

    def test_noughts(self):
        for field in FIELDS:
            for nought in NOUGHTS + [[field.prime - 1] + [0] * (field.turns - 1) + [1]]:
                self.assertEqual(dickson(field, nought), [[0] * field.turns] * field.turns)

    def test_by_position_and_by_name(self):
        check_named(self, dickson, NAMES, [EIGHT, [2, 1]], [[2, 1, 0], [0, 4, 1], [1, 0, 6]])
        check_named(self, dickson, NAMES, [EIGHT, (2, 1, 0)], [[2, 1, 0], [0, 4, 1], [1, 0, 6]])
        check_named(self, dickson, NAMES, [EIGHT, ()], [[0] * 3] * 3)
        self.assertEqual(len({id(row) for row in dickson(EIGHT, [])}), 3)


class MirrorTest(unittest.TestCase):
    def test_by_traces(self):
        for field in SOME:
            for turner in rows_for(field):
                found = mirror(field, turner)
                self.assertTrue(alike(found, plain_told_turner(found)))
                self.assertLessEqual(len(found), field.turns)
                self.assertTrue(are_mirrors(field, turner, found), (field, turner))

    def test_all_elements(self):
        for field in (EIGHT, NINE):
            for turner in ([3, 0, 2], [1, 5], (0, 0, 7, 4)):
                found = mirror(field, turner)
                for one, other in product(range(field.size), repeat=2):
                    left = plain_times(field, plain_worth(field, turner, one), other)
                    right = plain_times(field, one, plain_worth(field, found, other))
                    self.assertEqual(plain_trace(field, left), plain_trace(field, right))

    def test_just_one(self):
        for turner in product(range(4), repeat=2):
            found = [list(other) for other in product(range(4), repeat=2) if are_mirrors(FOUR, turner, other)]
            self.assertEqual([mirror(FOUR, turner)], [plain_told_turner(other) for other in found])

    def test_numbers(self):
        for field in FIELDS:
            for turner in rows_for(field):
                row = plain_row(field, turner)
                expected = [row[0]] + [0] * (field.turns - 1)
                for at in range(1, field.turns):
                    expected[field.turns - at] = plain_turned(field, row[at], field.turns - at)
                self.assertEqual(mirror(field, turner), plain_told_turner(expected))

    def test_facts(self):
        for field in SOME:
            rows = turners_of(field, 3, 6)
            for turner in rows:
                self.assertEqual(mirror(field, mirror(field, turner)), as_map(field, turner))
                self.assertEqual(map_rank(field, mirror(field, turner)), map_rank(field, turner))
                for other in rows:
                    both = plain_put(field, mirror(field, other), mirror(field, turner))
                    self.assertEqual(mirror(field, plain_put(field, turner, other)), as_map(field, both))

    def test_edges(self):
        for field in FIELDS:
            last = field.size - 1
            for nought in NOUGHTS + [[field.prime - 1] + [0] * (field.turns - 1) + [1]]:
                self.assertEqual(mirror(field, nought), [])
            self.assertEqual([mirror(field, [1]), mirror(field, (last, 0))], [[1], [last]])
            self.assertEqual(mirror(field, [0] * field.turns + [last]), [last])
            self.assertEqual(mirror(field, [0, 1]), [0] * (field.turns - 1) + [1])

    def test_by_position_and_by_name(self):
        check_named(self, mirror, NAMES, [EIGHT, [0, 2]], [0, 0, 6])
        check_named(self, mirror, NAMES, [EIGHT, (3, 0)], [3])
        check_named(self, mirror, NAMES, [EIGHT, [3]], [3])
        check_named(self, mirror, NAMES, [EIGHT, []], [])


class ErrorsTest(unittest.TestCase):
    def test_wrong_values(self):
        for field in (EIGHT, NINE):
            for function in (dickson, mirror):
                check_wrong(self, function, [
                    ("field", field, WRONG_FIELDS, InvalidField),
                    ("turner", [1, 2], wrong_lists(field, 13), InvalidTurner),
                ])


if __name__ == "__main__":
    unittest.main()
