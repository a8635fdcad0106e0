"""Points 52 to 54: turn sums as maps, map tables, ranks."""

import unittest
from itertools import product

from tests.helpers import (
    BIG, EIGHT, EIGHTYONE, FIELDS, FORTYNINE, FOUR, NINE, SIXTEEN, TWENTYFIVE, TWENTYSEVEN, WRONG_FIELDS, alike,
    check_error, check_named, check_wrong, plain_figures, plain_plus, plain_told, plain_told_turner, plain_times,
    plain_worth, sample, turners_of, wrong_lists,
)
from turnpowers.errors import InvalidField, InvalidTable, InvalidTurner
from turnpowers.maps import are_one_map, as_map, map_rank, table_of, turner_by
from turnpowers.roots import roots

SOME = [FOUR, EIGHT, SIXTEEN, NINE, TWENTYSEVEN, TWENTYFIVE, FORTYNINE]
NAMES = ["field", "turner"]


def rows_for(field):
    """Turn sums of all kinds, some of degrees from the turns on."""
    longest = sample(field, 12, 3) + [2]
    return turners_of(field, 5, 4) + [longest, tuple(longest), [1] * 13, [0] * 12 + [1], (0,) * 13, ()]


def plain_worths(field, turner):
    """The worths at all elements."""
    return [plain_worth(field, turner, one) for one in range(field.size)]


def wrong_tables(field):
    """Values that are no map tables of the field."""
    many, prime = field.turns, field.prime
    row, good = [1] + [0] * (many - 1), [[0] * many for _ in range(many)]
    found = [None, True, False, 0, 1, -1, "", "100", [], (), {}, {0: row}, field, row, [1] * many * many]
    found += [good[1:], good + [row], [row[1:]] + good[1:], good[1:] + [row + [0]], good[:-1] + [[]], [[]] * many]
    found += [good[1:] + [None], good[1:] + [0], good[1:] + ["0" * many], good[1:] + [{}], [0] * many, "0" * many]
    found += [[[one for one in part] + [0] for part in good], [part[1:] for part in good], [good] * many]
    for one in (True, False, None, -1, prime, prime + 1, field.size - 1, 10 ** 29, "0", [0], (0,)):
        found += [[[one] + row[1:]] + good[1:], (*good[1:], tuple(row[1:] + [one]))]
    return found


class ExamplesTest(unittest.TestCase):
    def test_maps(self):
        table = [[1, 0, 0], [0, 0, 1], [0, 1, 1]]
        self.assertEqual([table_of(EIGHT, [0, 1]), turner_by(EIGHT, table)], [table, [0, 1]])
        self.assertEqual([as_map(EIGHT, [3, 0, 0, 1]), as_map(EIGHT, [1, 0, 0, 1])], [[2], []])
        self.assertIs(are_one_map(EIGHT, [1], [0, 0, 0, 1]), True)
        self.assertEqual([map_rank(EIGHT, [1, 1, 1]), map_rank(EIGHT, [5]), map_rank(EIGHT, [])], [1, 3, 0])


class TablesTest(unittest.TestCase):
    def test_by_worths(self):
        for field in FIELDS:
            for turner in rows_for(field):
                units = [field.prime ** at for at in range(field.turns)]
                expected = [plain_figures(field, plain_worth(field, turner, one)) for one in units]
                self.assertTrue(alike(table_of(field, turner), expected))

    def test_table_tells_all_worths(self):
        for field in (EIGHT, NINE, TWENTYFIVE):
            for turner in rows_for(field):
                table = table_of(field, turner)
                for one in range(field.size):
                    total = 0
                    for figure, row in zip(plain_figures(field, one), table):
                        total = plain_plus(field, total, plain_times(field, figure, plain_told(field, row)))
                    self.assertEqual(total, plain_worth(field, turner, one))

    def test_all_tables_of_small_fields(self):
        for field in (FOUR, EIGHT, NINE):
            found = []
            for row in product(range(field.prime), repeat=field.turns ** 2):
                table = [list(row[at:at + field.turns]) for at in range(0, len(row), field.turns)]
                turner = turner_by(field, table)
                self.assertEqual(table_of(field, turner), table)
                self.assertTrue(alike(turner, plain_told_turner(turner)))
                self.assertLessEqual(len(turner), field.turns)
                found.append(tuple(turner))
            self.assertEqual(len(set(found)), field.size ** field.turns)

    def test_back_from_the_table(self):
        for field in FIELDS:
            for turner in rows_for(field):
                self.assertEqual(turner_by(field, table_of(field, turner)), as_map(field, turner))
                table = tuple(tuple(row) for row in table_of(field, turner))
                self.assertEqual(turner_by(field, table), as_map(field, turner))

    def test_edges(self):
        for field in FIELDS:
            units = [[int(at == beside) for beside in range(field.turns)] for at in range(field.turns)]
            noughts = [[0] * field.turns for _ in range(field.turns)]
            for nought in ([], (0, 0), [0] * 13):
                self.assertEqual(table_of(field, nought), noughts)
            self.assertEqual([table_of(field, [1]), turner_by(field, units)], [units, [1]])
            self.assertEqual(turner_by(field, noughts), [])
            self.assertEqual(table_of(field, [0] * field.turns + [1]), units)

    def test_new_rows(self):
        found = table_of(EIGHT, [])
        self.assertEqual(len({id(row) for row in found}), 3)
        check_named(self, table_of, NAMES, [EIGHT, [0, 1]], [[1, 0, 0], [0, 0, 1], [0, 1, 1]])
        check_named(self, table_of, NAMES, [EIGHT, (0, 0)], [[0] * 3] * 3)
        check_named(self, turner_by, ["field", "value"], [EIGHT, [[1, 0, 0], [0, 0, 1], [0, 1, 1]]], [0, 1])
        check_named(self, turner_by, ["field", "value"], [EIGHT, ((1, 0, 0), [0, 0, 1], (0, 1, 1))], [0, 1])


class AsMapTest(unittest.TestCase):
    def test_by_worths(self):
        for field in SOME:
            for turner in rows_for(field):
                found = as_map(field, turner)
                self.assertTrue(alike(found, plain_told_turner(found)))
                self.assertLessEqual(len(found), field.turns)
                self.assertEqual(plain_worths(field, found), plain_worths(field, turner))

    def test_sums_of_numbers(self):
        for field in FIELDS:
            for turner in rows_for(field):
                expected = [0] * field.turns
                for at, one in enumerate(turner):
                    expected[at % field.turns] = plain_plus(field, expected[at % field.turns], one)
                self.assertEqual(as_map(field, turner), plain_told_turner(expected))

    def test_edges(self):
        for field in FIELDS:
            last, less_one = field.size - 1, field.prime - 1
            for nought in ([], (), [0] * 13, [less_one] + [0] * (field.turns - 1) + [1]):
                self.assertEqual(as_map(field, nought), [])
            self.assertEqual(as_map(field, (last, 0)), [last])
            self.assertEqual(as_map(field, [1, last]), [1, last])
            self.assertEqual(as_map(field, [0] * field.turns + [last]), [last])

    def test_one_map(self):
        for field in (FOUR, EIGHT, NINE, TWENTYFIVE):
            rows = rows_for(field) + [[1], [0] * field.turns + [1], [2], [1, 1]]
            worths = [plain_worths(field, turner) for turner in rows]
            for turner, found in zip(rows, worths):
                for other, beside in zip(rows, worths):
                    self.assertIs(are_one_map(field, turner, other), found == beside)

    def test_one_map_of_all_fields(self):
        for field in FIELDS:
            self.assertIs(are_one_map(field, [1], [0] * field.turns + [1]), True)
            self.assertIs(are_one_map(field, [1], [0] * (field.turns - 1) + [1]), False)
            self.assertIs(are_one_map(field, [], [field.prime - 1] + [0] * (field.turns - 1) + [1]), True)
            self.assertIs(are_one_map(field, [0], ()), True)
            self.assertIs(are_one_map(field, [1, 2, 0], (1, 2)), True)

    def test_by_position_and_by_name(self):
        check_named(self, as_map, NAMES, [EIGHT, [3, 0, 0, 1]], [2])
        check_named(self, as_map, NAMES, [EIGHT, [3, 1]], [3, 1])
        check_named(self, as_map, NAMES, [EIGHT, (1, 0, 0, 1)], [])
        check_named(self, are_one_map, ["field", "turner", "other"], [EIGHT, [1], (0, 0, 0, 1)], True)
        check_named(self, are_one_map, ["field", "turner", "other"], [EIGHT, (1,), [0, 0, 1]], False)


class RankTest(unittest.TestCase):
    def test_by_worths(self):
        for field in SOME:
            for turner in rows_for(field):
                found = map_rank(field, turner)
                self.assertTrue(alike(field.prime ** found, len(set(plain_worths(field, turner)))))
                if plain_told_turner(turner):
                    self.assertEqual(found, field.turns - roots(field, turner).dimension)

    def test_all_of_small_fields(self):
        for field in (FOUR, EIGHT):
            for turner in product(range(field.size), repeat=2):
                self.assertEqual(field.prime ** map_rank(field, turner), len(set(plain_worths(field, turner))))

    def test_edges(self):
        for field in FIELDS:
            for nought in ([], (0,), [0] * 13, [field.prime - 1] + [0] * (field.turns - 1) + [1]):
                self.assertEqual(map_rank(field, nought), 0)
            for one in ([1], [field.size - 1], [0, 1], (0, 0, 2), [0] * 12 + [1]):
                self.assertEqual(map_rank(field, one), field.turns)
            self.assertEqual(map_rank(field, [1] * field.turns), 1)
            self.assertEqual(map_rank(field, [field.prime - 1, 1]), field.turns - 1)
        self.assertEqual([map_rank(BIG, [1] * 7), map_rank(EIGHTYONE, [1] * 12)], [1, 0])

    def test_by_position_and_by_name(self):
        check_named(self, map_rank, NAMES, [EIGHT, [1, 1, 1]], 1)
        check_named(self, map_rank, NAMES, [EIGHT, (5,)], 3)


class ErrorsTest(unittest.TestCase):
    def test_wrong_turners(self):
        for field in (EIGHT, NINE):
            for function in (table_of, as_map, map_rank):
                check_wrong(self, function, [
                    ("field", field, WRONG_FIELDS, InvalidField),
                    ("turner", [1, 2], wrong_lists(field, 13), InvalidTurner),
                ])
            check_wrong(self, are_one_map, [
                ("field", field, WRONG_FIELDS, InvalidField),
                ("turner", [1, 2], wrong_lists(field, 13), InvalidTurner),
                ("other", [3], wrong_lists(field, 13), InvalidTurner),
            ])

    def test_wrong_tables(self):
        for field in (FOUR, EIGHT, NINE, TWENTYFIVE):
            good = table_of(field, [1])
            wrongs = [table for table in wrong_tables(field) if table != good]
            check_wrong(self, turner_by, [
                ("field", field, WRONG_FIELDS, InvalidField),
                ("value", good, wrongs, InvalidTable),
            ])

    def test_tables_of_other_fields(self):
        for field in (FOUR, EIGHT, SIXTEEN):
            for other in (FOUR, EIGHT, SIXTEEN):
                table = table_of(other, [1, 1])
                if field.turns != other.turns:
                    check_error(self, InvalidTable, {"value": table}, turner_by, field, table)


if __name__ == "__main__":
    unittest.main()
