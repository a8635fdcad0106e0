"""Points 91 and 92: written forms read, and wrong lines."""

import re
import unittest

from tests.helpers import (
    EIGHT, FIELDS, FOUR, GREAT, NINE, SIXTEEN, TWENTYFIVE, alike, books_of, check_error, check_named, plain_figures,
    plain_rank, plain_told_turner, sample, turners_of,
)
from turnpowers.books import Book
from turnpowers.errors import InvalidText
from turnpowers.fields import Field
from turnpowers.lots import spaces_of
from turnpowers.readers import read
from turnpowers.spaces import Space
from turnpowers.texts import written

COUNT = "(0|[1-9][0-9]*)"
VALUES = [
    ("field", EIGHT), ("field", Field(7, [1, 0, 1])), ("field", Field(2, [1, 1, 0, 0, 0, 0, 0, 1])),
    ("turner", (EIGHT, [1, 0, 7])), ("turner", (EIGHT, [])), ("turner", (NINE, [0, 8])),
    ("turner", (FIELDS[7], [127, 10] + [0] * 10 + [100])), ("elements", (EIGHT, [6, 0])), ("elements", (NINE, [])),
    ("elements", (FOUR, [0] * 12)), ("space", Space(EIGHT, [5, 6])), ("space", Space(NINE, [])),
    ("space", Space(SIXTEEN, [9, 2])), ("book", Book(EIGHT, [1, 2, 4], 1)), ("book", Book(NINE, [5, 1], 2)),
    ("book", Book(TWENTYFIVE, [7, 24], 1)),
]
TEXTS = [written(sort, value) for sort, value in VALUES]


def counts_of(line, word):
    """The numbers of a line with this word, without its line feed; None if it is not written so."""
    if not re.fullmatch(f"{word}( {COUNT})*", line):
        return None
    return [int(one) for one in line.split(" ")[1:]]


def remainder(prime, one, other):
    """What a polynomial leaves, divided by another one with the last number 1."""
    left = list(one)
    while len(left) >= len(other):
        factor = left.pop()
        for at in range(len(other) - 1):
            start = len(left) - len(other) + 1
            left[start + at] = (left[start + at] - factor * other[at]) % prime
    return left


def plain_field(line):
    """The field that a first line tells, without its line feed; None if it tells none."""
    counts = counts_of(line, "field")
    if not counts or counts[0] not in (2, 3, 5, 7) or not 4 <= len(counts) <= 14 or counts[-1] != 1:
        return None
    prime, modulus = counts[0], counts[1:]
    turns = len(modulus) - 1
    if max(modulus) >= prime or prime ** turns > 128:
        return None
    for many in range(1, turns // 2 + 1):
        for number in range(prime ** many):
            other = [number // prime ** at % prime for at in range(many)] + [1]
            if not any(remainder(prime, modulus, other)):
                return None
    return Field(prime, modulus)


def are_steps(field, row):
    """Whether a list of elements is the steps of a space, by point 32."""
    if row != sorted(set(row)) or 0 in row:
        return False
    figures = [plain_figures(field, one) for one in row]
    ends = [max(at for at, figure in enumerate(one) if figure) for one in figures]
    return len(set(ends)) == len(ends) and all(one[end] == (at == beside) for at, one in enumerate(figures)
                                               for beside, end in enumerate(ends))


def plain_second(field, line):
    """The sort and the value that a second line tells, without its line feed; None if it tells none."""
    word = line.split(" ")[0]
    row = counts_of(line, word) if word in ("turner", "elements", "space", "book") else None
    if row is None:
        return None
    if word == "book":
        many, points = (row or [0])[0], row[1:]
        fit = all(one < field.size for one in points) and plain_rank(field, points) == len(points)
        return (word, Book(field, points, many)) if fit and 1 <= many <= len(points) else None
    if any(one >= field.size for one in row):
        return None
    if word == "space":
        return (word, Space(field, row)) if are_steps(field, row) else None
    if word == "turner":
        return (word, (field, row)) if len(row) <= 13 and (row == [] or row[-1] != 0) else None
    return (word, (field, row)) if len(row) <= 12 else None


def plain_read(text):
    """The sort and the value that a string tells, or its wrong line."""
    lines = re.findall("[^\n]*\n|[^\n]+", text)
    field = plain_field(lines[0][:-1]) if lines and lines[0][-1] == "\n" else None
    if field is None:
        return 1
    if len(lines) == 1:
        return "field", field
    found = plain_second(field, lines[1][:-1]) if lines[1][-1] == "\n" else None
    if found is None:
        return 2
    return found if len(lines) == 2 else 3


class ReadTest(unittest.TestCase):
    def check_text(self, text):
        expected = plain_read(text)
        if isinstance(expected, int):
            check_error(self, InvalidText, {"line": expected}, read, text)
        else:
            self.check_read(text, expected)

    def check_read(self, text, expected):
        found = read(text)
        self.assertIs(type(found), tuple, text)
        self.assertEqual(found, expected, text)
        sort, value = found
        if sort in ("turner", "elements"):
            self.assertTrue(alike(value[1], expected[1][1]), text)
        self.assertEqual(written(sort, value), text)

    def test_examples(self):
        self.assertEqual(read("field 2 1 1 0 1\n"), ("field", EIGHT))
        self.assertEqual(read("field 2 1 1 0 1\nturner\n"), ("turner", (EIGHT, [])))

    def test_what_is_written(self):
        for (sort, value), text in zip(VALUES, TEXTS):
            self.check_read(text, (sort, value))
        for field in FIELDS:
            values = [("field", field)]
            values += [("elements", (field, sample(field, many, 3))) for many in range(13)]
            values += [("turner", (field, plain_told_turner(turner))) for turner in turners_of(field, 13, 1)]
            values += [("book", book) for book in books_of(field)]
            for sort, value in values:
                self.check_read(written(sort, value), (sort, value))

    def test_all_spaces_of_small_fields(self):
        for field in (EIGHT, NINE, SIXTEEN):
            for many in range(field.turns + 1):
                for space in spaces_of(field, many):
                    self.check_read(written("space", space), ("space", space))

    def test_noughts_left_out(self):
        self.check_read(written("turner", (EIGHT, (3, 0, 0))), ("turner", (EIGHT, [3])))
        self.check_read(written("elements", (EIGHT, (3, 0, 0))), ("elements", (EIGHT, [3, 0, 0])))

    def test_each_sign_otherwise(self):
        for text in TEXTS:
            for at in range(len(text) + 1):
                self.check_text(text[:at] + text[at + 1:])
                for sign in ("0", "1", "3", "9", " ", "\n", "-", "+", ",", "f", "x", "_", "."):
                    self.check_text(text[:at] + sign + text[at:])
                    self.check_text(text[:at] + sign + text[at + 1:])

    def test_lines_put_in_left_out_and_exchanged(self):
        for text in TEXTS:
            lines = text.split("\n")[:-1]
            self.check_text("\n".join(lines))
            self.check_text("".join(line + "\n" for line in reversed(lines)))
            for at in range(len(lines) + 1):
                for more in ("", " ", "turner 1", "field 2 1 1 0 1", "space", "book", "x", lines[0], lines[-1]):
                    for end in ("\n", ""):
                        self.check_text("\n".join(lines[:at] + [more] + lines[at:]) + end)
            for at in range(len(lines)):
                self.check_text("".join(line + "\n" for line in lines[:at] + lines[at + 1:]))

    def test_two_joined(self):
        for text in TEXTS:
            for other in TEXTS:
                self.check_text(text + other)
                self.check_text(text.split("\n")[0] + "\n" + other.split("\n")[-2] + "\n")

    def test_second_lines(self):
        rows = [[], [0], [1], [0, 0], [1, 0], [0, 1], [8], [9], [1, 2], [2, 1], [1, 2, 3], [1, 2, 4], [5, 6], [3, 5]]
        rows += [[1] * 12, [1] * 13, [1] * 14, [0] * 12, [0] * 13, [3, 1, 2, 4], [4, 1, 2, 4], [2, 1, 1], [1, 0],
                 [0, 1]]
        rows += [[1, 1], [1, 3], [1, 4], [1, 6], [2, 5, 3], [2, 3, 6], [128], [1000], [1, 1000], [GREAT], [1, GREAT]]
        for field in (EIGHT, NINE, FOUR, TWENTYFIVE):
            for word in ("turner", "elements", "space", "book", "field", "word", "", "Turner", "turners"):
                for row in rows:
                    second = " ".join([word] + [str(one) for one in row]) + "\n"
                    self.check_text(written("field", field) + second)
                    self.check_text(written("field", field) + second.replace(" ", "  ", 1))
                    self.check_text(written("field", field) + second.replace(" ", " 0", 1))

    def test_all_pairs_for_steps(self):
        for field in (EIGHT, NINE):
            for one in range(field.size):
                for other in range(field.size):
                    self.check_text(written("field", field) + f"space {one} {other}\n")
                    self.check_text(written("field", field) + f"book 1 {one} {other}\n")

    def test_first_lines(self):
        lines = ["", " ", "field", "field ", "field 2", "field 2 1", "field 2 1 1", "field 2 1 0 1", "field 4 1 1 1"]
        lines += ["field 1 1 1 1", "field 0 1 1 1", "field 9 1 0 1", "field 3 1 1 1", "field 3 1 0 2", "field 3 3 0 1"]
        lines += ["field 2 1 1 0 1 0", "field 2 1 1 0 0 0 0 0 1", "field 2 1 1 0 1 1 0 0 0 1", "field 7 3 0 0 1"]
        lines += ["field 11 1 0 1", "Field 2 1 1 1", "fields 2 1 1 1", "2 1 1 1", "field 2 1 1 1 ", " field 2 1 1 1"]
        lines += ["field 2  1 1 1", "field  2 1 1 1", "field +2 1 1 1", "field 02 1 1 1", "field 2 01 1 1",
                  "field -2 1 1 1"]
        lines += ["field 2,1,1,1", "field 2 1 1 1", "field 5 2 0 1", "field 7 1 0 1", "field 2 " + "1 " * 13 + "1"]
        lines += ["field 3 2 1 0 0 0 0 0 0 0 0 0 0 1", f"field {GREAT} 1 1 1", f"field 2 1 1 {GREAT}", "turner 1"]
        lines += ["field 5 1 1 0 1", "field 5 1 0 0 1", "field 2 " + "1" * 3900, "field 2" + " 1" * 1900]
        for line in lines:
            self.check_text(line)
            for behind in ("\n", "\nturner 1\n", "\nturner 0\n", "\n\n", "\nturner", "\nspace\nspace\n"):
                self.check_text(line + behind)

    def test_empty(self):
        for text in ("", "\n", "\n\n", " ", " \n"):
            check_error(self, InvalidText, {"line": 1}, read, text)

    def test_behind_a_whole_one(self):
        for text in TEXTS[3:]:
            for more in ("\n", " ", "x", "turner", "turner 1\n", "field 2 1 1 0 1\n", "\n\n\n", "0"):
                check_error(self, InvalidText, {"line": 3}, read, text + more)
        for more in ("\n", " ", "x", "turner", "field 2 1 1 0 1\n", "\n\n\n", "field 2 1 1 0 1\nturner\n",
                     "turner 0\n"):
            check_error(self, InvalidText, {"line": 2}, read, TEXTS[0] + more)

    def test_no_strings(self):
        wrongs = [None, True, False, 0, 1, -1, GREAT, [], (), {}, ["field 2 1 1 1\n"], ("field", EIGHT), EIGHT, b""]
        for value in wrongs + [b"field 2 1 1 1\n", Space(EIGHT, []), read, 10 ** 600]:
            check_error(self, InvalidText, {"line": 0}, read, value)
            check_error(self, InvalidText, {"line": 0}, read, text=value)

    def test_by_name_and_new_lists(self):
        check_named(self, read, ["text"], ["field 2 1 1 0 1\nturner 1 2\n"], ("turner", (EIGHT, [1, 2])))
        text = "field 2 1 1 0 1\nelements 1 2\n"
        found = read(text)
        found[1][1].append(9)
        self.assertEqual(read(text), ("elements", (EIGHT, [1, 2])))


if __name__ == "__main__":
    unittest.main()
