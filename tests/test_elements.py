"""Points 6 and 12 to 15: elements reckoned with, turned, and mixed."""

import unittest
from itertools import product

from tests.helpers import (
    BIG, EIGHT, EIGHTYONE, FIELDS, FORTYNINE, FOUR, GREAT, NINE, SIXTEEN, TWENTYFIVE, TWENTYSEVEN, WRONG_FIELDS,
    alike, check_error, check_named, check_wrong, plain_figures, plain_mixtures, plain_plus, plain_power, plain_times,
    plain_turned, sample, wrong_lists, wrong_manys, wrong_ones,
)
from turnpowers.elements import (
    are_free, by_figures, figures, is_element, minus, mixture, norm, over, plus, power, rank, times, trace, turned,
    turned_back,
)
from turnpowers.errors import (
    DividedByNought, InvalidElement, InvalidElements, InvalidField, InvalidFigures, InvalidMany,
)

SMALL = [field for field in FIELDS if field.size <= 27]


def pairs(field):
    """Pairs of elements: all of a small field, some of a greater one, 0 and 1 among them."""
    if field.size <= 16:
        return list(product(range(field.size), repeat=2))
    ones = sorted(set([0, 1, field.prime, field.size - 1] + sample(field, 12, 1)))
    return list(product(ones, repeat=2))


def plain_rank(field, some):
    """The number of mixtures tells the rank."""
    many, dimension = len(set(plain_mixtures(field, some))), 0
    while field.prime ** dimension < many:
        dimension += 1
    return dimension


class ExamplesTest(unittest.TestCase):
    def test_examples_over_eight(self):
        self.assertEqual(times(EIGHT, 2, 4), 3)
        self.assertEqual(plus(EIGHT, 3, 5), 6)
        self.assertEqual(over(EIGHT, 1, 2), 5)
        self.assertEqual(power(EIGHT, 2, 7), 1)
        self.assertEqual([turned(EIGHT, 2, many) for many in range(4)], [2, 4, 6, 2])
        self.assertEqual(turned_back(EIGHT, 2, 1), 6)
        self.assertEqual([norm(EIGHT, 2), trace(EIGHT, 2), trace(EIGHT, 1)], [1, 0, 1])
        self.assertEqual(figures(EIGHT, 6), [0, 1, 1])

    def test_examples_over_nine(self):
        self.assertEqual([times(NINE, 3, 3), minus(NINE, 0, 4), over(NINE, 1, 3), turned(NINE, 3, 1)], [2, 8, 6, 6])
        self.assertEqual([norm(NINE, 4), trace(NINE, 4), by_figures(NINE, [2, 1])], [2, 2, 5])
        self.assertEqual([is_element(NINE, 9), power(NINE, 0, 0)], [False, 1])

    def test_examples_of_free_ones(self):
        self.assertEqual([rank(EIGHT, [1, 2, 3]), are_free(EIGHT, [1, 2, 4]), are_free(EIGHT, [])], [2, True, True])
        self.assertEqual([mixture(EIGHT, [3, 6], [1, 1]), mixture(NINE, [4], [2])], [5, 8])


class IsElementTest(unittest.TestCase):
    def test_any_values(self):
        for field in FIELDS:
            for value in (0, 1, field.prime, field.size - 1):
                check_named(self, is_element, ["field", "value"], [field, value], True)
            for value in wrong_ones(field):
                check_named(self, is_element, ["field", "value"], [field, value], False)

    def test_wrong_fields(self):
        for value in (1, None):
            check_wrong(self, is_element, [("field", EIGHT, WRONG_FIELDS, InvalidField), ("value", value, [], None)])


class ReckonedTest(unittest.TestCase):
    def test_sums_and_products(self):
        for field in FIELDS:
            for one, other in pairs(field):
                self.assertTrue(alike(plus(field, one, other), plain_plus(field, one, other)))
                self.assertTrue(alike(minus(field, one, other), plain_plus(field, one, other, -1)))
                self.assertTrue(alike(times(field, one, other), plain_times(field, one, other)))

    def test_divided(self):
        for field in FIELDS:
            for one, other in pairs(field):
                if other != 0:
                    found = over(field, one, other)
                    self.assertTrue(is_element(field, found))
                    self.assertEqual(plain_times(field, found, other), one)

    def test_of_nought(self):
        for field in FIELDS:
            for one in (1, field.prime, field.size - 1):
                self.assertEqual(over(field, 0, one), 0)
                self.assertEqual(times(field, 0, one), 0)
                check_error(self, DividedByNought, {}, over, field, one, 0)
            check_error(self, DividedByNought, {}, over, field, 0, 0)

    def test_by_position_and_by_name(self):
        for function, found in ((plus, 2), (minus, 6), (times, 2), (over, 3)):
            check_named(self, function, ["field", "one", "other"], [NINE, 4, 7], found)

    def test_wrong_values(self):
        for field in (EIGHT, NINE, BIG):
            for function in (plus, minus, times, over):
                check_wrong(self, function, [
                    ("field", field, WRONG_FIELDS, InvalidField),
                    ("one", 1, wrong_ones(field), InvalidElement),
                    ("other", 2, wrong_ones(field), InvalidElement),
                ])

    def test_elements_ahead_of_state(self):
        check_error(self, InvalidElement, {"value": 8}, over, EIGHT, 8, 0)
        check_error(self, InvalidElement, {"value": False}, over, EIGHT, 1, False)


class PowerTest(unittest.TestCase):
    def test_powers(self):
        for field in SMALL:
            for one in range(field.size):
                found = 1
                for many in range(field.size + 2):
                    self.assertTrue(alike(power(field, one, many), found))
                    found = plain_times(field, found, one)

    def test_of_nought_and_to_nought(self):
        for field in FIELDS:
            self.assertEqual([power(field, 0, 0), power(field, 0, 1), power(field, 0, 1000)], [1, 0, 0])
            for one in (1, field.prime, field.size - 1):
                self.assertEqual([power(field, one, 0), power(field, one, 1)], [1, one])

    def test_greatest(self):
        for field in FIELDS:
            for one in (field.prime, field.size - 1):
                self.assertEqual(power(field, one, 1000), plain_power(field, one, 1000))

    def test_facts(self):
        for field in FIELDS:
            for one in range(1, field.size):
                self.assertEqual(power(field, one, field.size - 1), 1)
            most = max(len({power(field, one, many) for many in range(field.size)}) for one in range(field.size))
            self.assertEqual(most, field.size - 1)

    def test_wrong_values(self):
        for field in (EIGHT, NINE):
            check_wrong(self, power, [
                ("field", field, WRONG_FIELDS, InvalidField),
                ("one", 1, wrong_ones(field), InvalidElement),
                ("many", 3, wrong_manys(1000), InvalidMany),
            ])
        check_named(self, power, ["field", "one", "many"], [EIGHT, 2, 3], 3)


class TurnedTest(unittest.TestCase):
    def test_turned(self):
        for field in SMALL:
            for one in range(field.size):
                found = one
                for many in range(25):
                    self.assertTrue(alike(turned(field, one, many), found))
                    self.assertTrue(alike(turned_back(field, found, many), one))
                    found = plain_power(field, found, field.prime)

    def test_turned_in_greater_fields(self):
        for field in FIELDS:
            for one in sample(field, 6, 3):
                for many in (0, 1, 2, field.turns, field.turns + 1, 24):
                    found = turned(field, one, many)
                    self.assertEqual(found, plain_turned(field, one, many % field.turns))
                    self.assertEqual(turned_back(field, found, many), one)

    def test_facts(self):
        for field in FIELDS:
            ones = range(field.size)
            self.assertEqual([one for one in ones if turned(field, one, 1) == one], list(range(field.prime)))
            self.assertEqual(sorted(turned(field, one, 1) for one in ones), list(ones))
            self.assertEqual([turned(field, one, field.turns) for one in ones], list(ones))
            roots = {turned(field, field.prime, many) for many in range(field.turns)}
            self.assertEqual(len(roots), field.turns)

    def test_by_position_and_by_name(self):
        check_named(self, turned, ["field", "one", "many"], [EIGHT, 2, 2], 6)
        check_named(self, turned_back, ["field", "one", "many"], [EIGHT, 2, 1], 6)

    def test_wrong_values(self):
        for field in (EIGHT, NINE):
            for function in (turned, turned_back):
                check_wrong(self, function, [
                    ("field", field, WRONG_FIELDS, InvalidField),
                    ("one", 1, wrong_ones(field), InvalidElement),
                    ("many", 3, wrong_manys(24), InvalidMany),
                ])


class NormTraceTest(unittest.TestCase):
    def test_all(self):
        for field in FIELDS:
            for one in range(field.size) if field.size <= 27 else [0, 1, field.prime] + sample(field, 8, 2):
                product, total, factor = 1, 0, one
                for _ in range(field.turns):
                    product = plain_times(field, product, factor)
                    total = plain_plus(field, total, factor)
                    factor = plain_power(field, factor, field.prime)
                self.assertTrue(alike(norm(field, one), product))
                self.assertTrue(alike(trace(field, one), total))

    def test_facts(self):
        for field in FIELDS:
            norms = [norm(field, one) for one in range(field.size)]
            traces = [trace(field, one) for one in range(field.size)]
            prime, size = field.prime, field.size
            self.assertEqual([traces.count(one) for one in range(prime)], [size // prime] * prime)
            self.assertEqual([norms.count(one) for one in range(prime)],
                             [1] + [(size - 1) // (prime - 1)] * (prime - 1))
            for one, other in pairs(field):
                self.assertEqual(norms[times(field, one, other)], norms[one] * norms[other] % prime)
                self.assertEqual(traces[plus(field, one, other)], (traces[one] + traces[other]) % prime)

    def test_wrong_values(self):
        for field in (EIGHT, NINE):
            for function in (norm, trace, figures):
                check_wrong(self, function, [
                    ("field", field, WRONG_FIELDS, InvalidField),
                    ("one", 1, wrong_ones(field), InvalidElement),
                ])
        check_named(self, norm, ["field", "one"], [NINE, 4], 2)
        check_named(self, trace, ["field", "one"], [NINE, 4], 2)
        check_named(self, figures, ["field", "one"], [NINE, 5], [2, 1])


class FiguresTest(unittest.TestCase):
    def test_there_and_back(self):
        for field in FIELDS:
            for one in range(field.size):
                found = figures(field, one)
                self.assertTrue(alike(found, plain_figures(field, one)))
                self.assertEqual([type(figure) for figure in found], [int] * field.turns)
                self.assertTrue(alike(by_figures(field, found), one))
                self.assertTrue(alike(by_figures(field, tuple(found)), one))

    def test_by_position_and_by_name(self):
        check_named(self, by_figures, ["field", "value"], [EIGHT, [0, 1, 1]], 6)
        check_named(self, by_figures, ["field", "value"], [EIGHT, (0, 1, 1)], 6)

    def test_wrong_values(self):
        wrongs = [True, False, None, 0, 5, "011", "", {}, EIGHT, [], (), [1], [0, 1], [0, 1, 1, 0], (1, 1, 1, 1),
                  [True, 0, 1], [0, False, 1], [0, 1, True], [0, 1, 2], [2, 1, 0], [-1, 0, 1], [0, None, 1],
                  [0, "1", 1], ["0", "1", "1"], [[0, 1, 1]], [0, [1], 1], [0, 0, GREAT], [0] * 200]
        rows = [("field", EIGHT, WRONG_FIELDS, InvalidField), ("value", [0, 1, 1], wrongs, InvalidFigures)]
        check_wrong(self, by_figures, rows)
        rows = [("field", NINE, WRONG_FIELDS, InvalidField), ("value", [0, 2], [[0, 3], [3, 0]], InvalidFigures)]
        check_wrong(self, by_figures, rows)


class FreeTest(unittest.TestCase):
    def test_all_pairs_and_triples(self):
        for field, most in ((FOUR, 4), (EIGHT, 3), (NINE, 3), (SIXTEEN, 2), (TWENTYSEVEN, 2)):
            for many in range(most):
                for some in product(range(field.size), repeat=many):
                    expected = plain_rank(field, some)
                    self.assertEqual(rank(field, list(some)), expected)
                    self.assertIs(are_free(field, some), expected == many)

    def test_longer_lists(self):
        for field in (FOUR, EIGHT, SIXTEEN, NINE, TWENTYSEVEN, TWENTYFIVE, FORTYNINE, EIGHTYONE, BIG):
            for many in range(5 if field.prime > 3 else 7):
                for start in range(8):
                    some = sample(field, many, start)
                    self.check_some(field, some, plain_rank(field, some))

    def check_some(self, field, some, expected):
        self.assertTrue(alike(rank(field, some), expected), (field, some))
        self.assertTrue(alike(rank(field, tuple(some)), expected))
        self.assertIs(are_free(field, some), expected == len(some))

    def test_edges(self):
        for field in FIELDS:
            whole = [field.prime ** at for at in range(field.turns)]
            self.check_some(field, [], 0)
            self.check_some(field, [0], 0)
            self.check_some(field, [0] * 12, 0)
            self.check_some(field, [1] * 12, 1)
            self.check_some(field, [1, field.prime - 1, field.prime], 2)
            self.check_some(field, [1, 1], 1)
            self.check_some(field, whole, field.turns)
            self.check_some(field, whole[::-1], field.turns)
            self.check_some(field, whole + [field.size - 1], field.turns)
            self.check_some(field, whole[1:] + [0], field.turns - 1)
            self.check_some(field, list(range(1, field.prime)), 1)
            self.check_some(field, [field.size - 1 - at for at in range(4)] * 3, plain_rank(
                field, [field.size - 1 - at for at in range(4)]))

    def test_fact_of_mixtures(self):
        for field in (EIGHT, NINE, TWENTYFIVE):
            for start in range(6):
                some = sample(field, 3, start)
                ways = product(range(field.prime), repeat=3)
                self.assertEqual(len({mixture(field, some, way) for way in ways}), field.prime ** rank(field, some))

    def test_by_position_and_by_name(self):
        check_named(self, rank, ["field", "some"], [EIGHT, [1, 2, 3]], 2)
        check_named(self, are_free, ["field", "some"], [EIGHT, [1, 2, 3]], False)
        check_named(self, are_free, ["field", "some"], [EIGHT, (1, 2, 4)], True)

    def test_wrong_values(self):
        for field in (EIGHT, NINE):
            for function in (rank, are_free):
                check_wrong(self, function, [
                    ("field", field, WRONG_FIELDS, InvalidField),
                    ("some", [1, 2], wrong_lists(field, 12), InvalidElements),
                ])


class MixtureTest(unittest.TestCase):
    def test_mixtures(self):
        for field in (FOUR, EIGHT, NINE, TWENTYFIVE, FORTYNINE):
            for many in range(4 if field.prime < 5 else 3):
                some = sample(field, many, 2 * many)
                found = [mixture(field, some, list(way)) for way in product(range(field.prime), repeat=many)]
                self.assertEqual(found, plain_mixtures(field, some))

    def test_edges(self):
        for field in FIELDS:
            self.assertTrue(alike(mixture(field, [], []), 0))
            self.assertTrue(alike(mixture(field, (), ()), 0))
            whole = [field.prime ** at for at in range(field.turns)]
            for one in sample(field, 5, 4):
                self.assertEqual(mixture(field, whole, figures(field, one)), one)
            self.assertEqual(mixture(field, [1] * 12, [1] * 12), 12 % field.prime)
            self.assertEqual(mixture(field, [field.size - 1], [0]), 0)

    def test_by_position_and_by_name(self):
        check_named(self, mixture, ["field", "some", "value"], [EIGHT, [3, 6], [1, 1]], 5)
        check_named(self, mixture, ["field", "some", "value"], [EIGHT, (3, 6), (1, 1)], 5)

    def test_wrong_values(self):
        wrongs = [True, False, None, 0, "11", "", {}, EIGHT, [], [1], [1, 1, 1], (1,), [True, 1], [1, False], [1, 2],
                  [-1, 1], [1, None], ["1", "1"], [[1], 1], [1, GREAT], [0] * 12]
        check_wrong(self, mixture, [
            ("field", EIGHT, WRONG_FIELDS, InvalidField),
            ("some", [3, 6], wrong_lists(EIGHT, 12), InvalidElements),
            ("value", [1, 1], wrongs, InvalidFigures),
        ])
        check_error(self, InvalidFigures, {"value": [3]}, mixture, NINE, [4], [3])
        check_error(self, InvalidFigures, {"value": [0]}, mixture, NINE, [], [0])


if __name__ == "__main__":
    unittest.main()
