"""Points 2, 3, 5 and 11: integers and counts, moduli, fields."""

import unittest
from itertools import product

from tests.helpers import (
    BIG, EIGHT, FIELDS, GREAT, MODULI, NINE, OTHER_EIGHT, WRONG_PRIMES, alike, check_error, check_named, check_wrong,
)
from turnpowers.basics import is_count, is_integer
from turnpowers.errors import InvalidModulus, InvalidPrime, TooMany
from turnpowers.fields import Field, is_modulus

NO_MODULI = [
    True, False, None, 0, 1, 2, GREAT, "", "1101", "111", {}, {1: 1}, EIGHT, [], (), [1], [1, 1], (0, 1), [0, 0, 0],
    [1, 0, 1], [0, 0, 1], [0, 1, 1], [1, 1, 0], [1, 1, 2], [1, 1, -1], [1, 3, 1], [-1, 1, 1], [3, 1, 1],
    [True, 1, 1], [1, True, 1], [1, 1, True], [1, False, 1, 1], [1, 1, None], [1, "1", 1], ["1", "1", "1"],
    [1, [1], 1], [[1, 1, 1]], [1, 1, GREAT], [1, (1,), 1], [1, 1, 0, 1, 0], [0, 1, 1, 0, 1], [1, 0, 0, 1],
]

# Two that cannot be parted over 2, of the degrees 12 and 13.
TWELVE = [1, 1, 0, 0, 1, 0, 1, 0, 0, 0, 0, 0, 1]
THIRTEEN = [1, 1, 0, 1, 1, 0, 0, 0, 0, 0, 0, 0, 0, 1]


def times_of(prime, one, other):
    """The product of two polynomials."""
    sums = [0] * (len(one) + len(other) - 1)
    for at, figure in enumerate(one):
        for beside, factor in enumerate(other):
            sums[at + beside] = (sums[at + beside] + figure * factor) % prime
    return sums


def parted(prime, degree):
    """All polynomials of the degree with the last number 1 that are products of lesser ones with last number 1."""
    found = set()
    for less in range(1, degree // 2 + 1):
        for one in product(range(prime), repeat=less):
            for other in product(range(prime), repeat=degree - less):
                found.add(tuple(times_of(prime, one + (1,), other + (1,))))
    return found


class BasicsTest(unittest.TestCase):
    def test_integers(self):
        for value in (0, 1, -1, 128, GREAT, -GREAT):
            check_named(self, is_integer, ["value"], [value], True)
        for value in (True, False, None, "1", "", [], [1], (1,), (), {}, EIGHT, int):
            check_named(self, is_integer, ["value"], [value], False)

    def test_counts(self):
        for value in (0, 1, 128, GREAT):
            check_named(self, is_count, ["value"], [value], True)
        for value in (-1, -GREAT, True, False, None, "1", "", [], [1], (1,), (), {}, EIGHT, int):
            check_named(self, is_count, ["value"], [value], False)


class ModuliTest(unittest.TestCase):
    def test_all_of_small_degrees(self):
        sizes = {(2, 2): 1, (2, 3): 2, (2, 4): 3, (2, 5): 6, (2, 6): 9, (2, 7): 18, (2, 8): 30, (3, 2): 3, (3, 3): 8,
                 (3, 4): 18, (5, 2): 10, (5, 3): 40, (7, 2): 21, (7, 3): 112}
        for (prime, degree), many in sizes.items():
            none = parted(prime, degree)
            seen = 0
            for row in product(range(prime), repeat=degree):
                expected = row + (1,) not in none
                self.assertIs(is_modulus(prime, list(row) + [1]), expected, (prime, row))
                seen += expected
            self.assertEqual(seen, many, (prime, degree))

    def test_examples(self):
        self.assertIs(is_modulus(2, [1, 1, 0, 1]), True)
        self.assertIs(is_modulus(2, [1, 0, 1]), False)
        self.assertIs(is_modulus(3, [1, 0, 1]), True)
        self.assertIs(is_modulus(2, [1, 1]), False)

    def test_lengths(self):
        self.assertIs(is_modulus(2, [1, 1, 1]), True)
        self.assertIs(is_modulus(2, TWELVE), True)
        self.assertIs(is_modulus(2, tuple(TWELVE)), True)
        self.assertIs(is_modulus(2, THIRTEEN), False)
        self.assertIs(is_modulus(2, TWELVE + [0]), False)
        self.assertIs(is_modulus(2, [0] + TWELVE[:-1]), False)
        self.assertIs(is_modulus(2, [1] * 13), True)
        self.assertIs(is_modulus(2, [1] * 12), False)
        self.assertIs(is_modulus(2, [1] * 200), False)
        for prime in (2, 3, 5, 7):
            self.assertIs(is_modulus(prime, [0, 1]), False)
            self.assertIs(is_modulus(prime, [1]), False)

    def test_products_without_parts_of_degree_1(self):
        for prime, one in MODULI:
            for beside, other in MODULI:
                if prime == beside and len(one) + len(other) - 1 <= 13:
                    self.assertIs(is_modulus(prime, times_of(prime, one, other)), False)
        self.assertIs(is_modulus(2, [1, 0, 1, 0, 0, 0, 0, 0, 0, 0, 0, 0, 1]), False)
        self.assertIs(is_modulus(7, [3, 0, 0, 0, 0, 0, 0, 0, 0, 0, 0, 0, 1]), False)

    def test_any_values(self):
        for value in NO_MODULI:
            check_named(self, is_modulus, ["prime", "value"], [2, value], False)
        for prime, modulus in MODULI:
            check_named(self, is_modulus, ["prime", "value"], [prime, modulus], True)
            check_named(self, is_modulus, ["prime", "value"], [prime, tuple(modulus)], True)

    def test_however_many(self):
        self.assertIs(is_modulus(7, [2, 0, 0, 1]), True)
        self.assertIs(is_modulus(2, [1, 1, 0, 1, 1, 0, 0, 0, 1]), True)

    def test_wrong_primes(self):
        for value in ([1, 1, 1], None):
            check_wrong(self, is_modulus, [("prime", 2, WRONG_PRIMES, InvalidPrime), ("value", value, [], None)])


class FieldTest(unittest.TestCase):
    def test_examples(self):
        nine = Field(3, (1, 0, 1))
        self.assertEqual([EIGHT.turns, EIGHT.size, nine.size, nine.modulus()], [3, 8, 9, [1, 0, 1]])
        self.assertEqual(repr(nine), "Field(3, [1, 0, 1])")
        self.assertEqual(repr(EIGHT), "Field(2, [1, 1, 0, 1])")

    def test_parts(self):
        for (prime, modulus), field in zip(MODULI, FIELDS):
            turns = len(modulus) - 1
            parts = [field.prime, field.turns, field.size]
            self.assertEqual(parts, [prime, turns, prime ** turns])
            self.assertEqual([type(part) for part in parts], [int, int, int])
            self.assertTrue(alike(field.modulus(), modulus))
            self.assertTrue(alike(Field(prime, tuple(modulus)).modulus(), modulus))
            self.assertEqual(repr(field), f"Field({prime}, {modulus})")
            self.assertEqual(Field(modulus=modulus, prime=prime), field)

    def test_it_never_changes(self):
        modulus = [1, 1, 0, 1]
        field = Field(2, modulus)
        modulus[1] = 0
        self.assertEqual(field.modulus(), [1, 1, 0, 1])
        field.modulus().append(1)
        self.assertEqual(field.modulus(), [1, 1, 0, 1])
        self.assertIsNot(field.modulus(), field.modulus())
        self.assertEqual(field, EIGHT)
        for name in ("prime", "turns", "size"):
            with self.assertRaises(AttributeError):
                setattr(field, name, 3)

    def test_equal(self):
        for at, one in enumerate(FIELDS):
            self.assertTrue(one == Field(one.prime, one.modulus()))
            self.assertFalse(one != Field(one.prime, tuple(one.modulus())))
            for beside, other in enumerate(FIELDS):
                self.assertIs(one == other, at == beside)
                self.assertIs(one != other, at != beside)
        self.assertFalse(EIGHT == OTHER_EIGHT)
        for value in (None, 8, "Field(2, [1, 1, 0, 1])", [1, 1, 0, 1], (2, [1, 1, 0, 1]), True, Field):
            self.assertIs(EIGHT == value, False)
            self.assertIs(value == EIGHT, False)
            self.assertIs(EIGHT != value, True)

    def test_wrong_values(self):
        rows = [("prime", 2, WRONG_PRIMES, InvalidPrime), ("modulus", [1, 1, 1], NO_MODULI, InvalidModulus)]
        check_wrong(self, Field, rows)
        check_error(self, InvalidModulus, {"value": THIRTEEN}, Field, 2, THIRTEEN)
        check_error(self, InvalidModulus, {"value": (1, 1, 2)}, Field, 2, (1, 1, 2))
        check_error(self, InvalidModulus, {"value": [1, 1, 1]}, Field, 3, [1, 1, 1])

    def test_how_many_elements(self):
        self.assertEqual(BIG.size, 128)
        self.assertEqual(Field(5, [1, 1, 0, 1]).size, 125)
        great = [(2, [1, 1, 0, 1, 1, 0, 0, 0, 1]), (3, [1, 2, 0, 0, 0, 1]), (5, [2, 0, 0, 0, 1]), (7, [2, 0, 0, 1]),
                 (2, TWELVE), (2, tuple(TWELVE))]
        for prime, modulus in great:
            self.assertIs(is_modulus(prime, modulus), True)
            check_error(self, TooMany, {"what": "elements", "limit": 128}, Field, prime, modulus)
        # What is no modulus is so ahead of the limit.
        check_error(self, InvalidModulus, {"value": [1] + [0] * 7 + [1]}, Field, 2, [1] + [0] * 7 + [1])

    def test_unlike_fields_of_one_size(self):
        self.assertEqual(EIGHT.size, OTHER_EIGHT.size)
        self.assertFalse(NINE == Field(3, [2, 1, 1]))


if __name__ == "__main__":
    unittest.main()
