"""Point 91: sorts and written forms."""

import unittest

from tests.helpers import (
    EIGHT, FIELDS, FOUR, GREAT, NINE, SIXTEEN, TWENTYFIVE, WRONG_BOOKS, WRONG_FIELDS, WRONG_SPACES, alike, books_of,
    check_error, check_named, check_new, plain_told_turner, sample, turners_of, wrong_lists,
)
from turnpowers.books import Book
from turnpowers.errors import InvalidSort, InvalidValue
from turnpowers.lots import spaces_of
from turnpowers.spaces import Space
from turnpowers.texts import is_of_sort, sorts, written

SORTS = ["field", "elements", "turner", "space", "book"]
WRONG_SORTS = [None, True, False, 0, 1, -1, GREAT, "", "Field", "word", "fields", "turner ", " turner", "field\n",
               "element", ["field"], ("field",), [], (), {}, {"field": 1}, EIGHT, Space(EIGHT, []), SORTS, b"field"]
GOOD = {
    "field": [EIGHT, NINE],
    "elements": [(EIGHT, []), (EIGHT, ()), (NINE, [0] * 12), (FOUR, (3, 0, 3)), (NINE, [8, 0])],
    "turner": [(EIGHT, []), (EIGHT, [0] * 13), (NINE, (8, 0)), (FOUR, [1] * 13)],
    "space": [Space(EIGHT, []), Space(NINE, [1, 3])],
    "book": [Book(EIGHT, [1, 2], 1), Book(NINE, [4], 1)],
}


def field_line(field):
    """The first line of all written forms over the field."""
    return "field " + " ".join(str(one) for one in [field.prime] + field.modulus()) + "\n"


def row_line(word, row):
    """A second line."""
    return "".join([word] + [f" {one}" for one in row]) + "\n"


class ExamplesTest(unittest.TestCase):
    def test_examples(self):
        self.assertEqual(written("field", EIGHT), "field 2 1 1 0 1\n")
        self.assertEqual(written("turner", (EIGHT, [1, 0, 7, 0])), "field 2 1 1 0 1\nturner 1 0 7\n")
        self.assertEqual(written("elements", (EIGHT, (6, 0))), "field 2 1 1 0 1\nelements 6 0\n")
        self.assertIs(is_of_sort("turner", [EIGHT, [1]]), False)


class SortsTest(unittest.TestCase):
    def test_words(self):
        self.assertTrue(alike(sorts(), SORTS))
        found = sorts()
        found.append("word")
        found[0] = ""
        self.assertEqual(sorts(), SORTS)

    def test_good_ones(self):
        for sort in SORTS:
            for value in GOOD[sort]:
                self.assertIs(is_of_sort(sort, value), True, (sort, value))
            for other in SORTS:
                if {sort, other} != {"elements", "turner"} and sort != other:
                    for value in GOOD[other]:
                        self.assertIs(is_of_sort(sort, value), False, (sort, value))

    def test_lengths(self):
        for many in range(16):
            self.assertIs(is_of_sort("elements", (EIGHT, [1] * many)), many <= 12)
            self.assertIs(is_of_sort("turner", (EIGHT, [1] * many)), many <= 13)
            self.assertIs(is_of_sort("turner", (EIGHT, (0,) * many)), many <= 13)

    def test_any_value(self):
        plain = [None, True, False, 0, 1, "", "field 2 1 1 1\n", b"", {}, [], (), Ellipsis, 10 ** 600, sorts]
        pairs = [(EIGHT,), (EIGHT, [1], [1]), (EIGHT, [1], None), [EIGHT, [1]], ([1], EIGHT), (None, [1]),
                 (EIGHT, EIGHT)]
        pairs += [(Space(EIGHT, []), [1]), (EIGHT, Space(EIGHT, [])), ((EIGHT, [1]), [1]), (2, [1, 1, 1]), (2, [1])]
        for sort in ("elements", "turner"):
            rows = wrong_lists(EIGHT, 12 if sort == "elements" else 13)
            for value in plain + pairs + [(EIGHT, row) for row in rows] + [(wrong, [1]) for wrong in WRONG_FIELDS]:
                self.check_wrong_value(sort, value)
        for sort, wrongs in (("field", WRONG_FIELDS), ("space", WRONG_SPACES), ("book", WRONG_BOOKS)):
            for value in plain + pairs + wrongs:
                self.check_wrong_value(sort, value)

    def check_wrong_value(self, sort, value):
        self.assertIs(is_of_sort(sort, value), False, (sort, value))
        check_error(self, InvalidValue, {"value": value}, written, sort, value)
        check_error(self, InvalidValue, {"value": value}, written, sort=sort, value=value)

    def test_wrong_sorts(self):
        for sort in WRONG_SORTS:
            for value in (EIGHT, None, (EIGHT, [1]), Space(EIGHT, [])):
                for function in (is_of_sort, written):
                    check_error(self, InvalidSort, {"value": sort}, function, sort, value)
                    check_error(self, InvalidSort, {"value": sort}, function, value=value, sort=sort)


class WrittenTest(unittest.TestCase):
    def test_fields(self):
        for field in FIELDS:
            self.assertTrue(alike(written("field", field), field_line(field)))

    def test_rows(self):
        for field in FIELDS:
            for many in range(13):
                row = sample(field, many, 5)
                self.assertEqual(written("elements", (field, row)), field_line(field) + row_line("elements", row))
                noughts = (field, (0,) * many)
                self.assertEqual(written("elements", noughts), field_line(field) + "elements" + " 0" * many + "\n")
            for turner in turners_of(field, 13, 2)[:-2]:
                told = plain_told_turner(turner)
                self.assertEqual(written("turner", (field, turner)), field_line(field) + row_line("turner", told))

    def test_spaces(self):
        for field in (EIGHT, NINE, SIXTEEN, TWENTYFIVE):
            for many in range(field.turns + 1):
                for space in spaces_of(field, many):
                    found = written("space", space)
                    self.assertEqual(found, field_line(field) + row_line("space", space.steps()))

    def test_books(self):
        for field in FIELDS:
            for book in books_of(field):
                row = [book.many] + book.points()
                self.assertEqual(written("book", book), field_line(field) + row_line("book", row))

    def test_none(self):
        for field in FIELDS:
            for sort, value in (("turner", (field, [])), ("elements", (field, ())), ("space", Space(field, []))):
                self.assertEqual(written(sort, value), field_line(field) + sort + "\n")

    def test_by_position_and_by_name(self):
        check_named(self, written, ["sort", "value"], ["turner", (EIGHT, [1, 0])], "field 2 1 1 0 1\nturner 1\n")
        check_named(self, is_of_sort, ["sort", "value"], ["elements", (EIGHT, [1, 0])], True)
        check_named(self, is_of_sort, ["sort", "value"], ["elements", (EIGHT, [1, [0]])], False)
        check_new(self, sorts(), [sorts()])


if __name__ == "__main__":
    unittest.main()
