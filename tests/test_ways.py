"""Points 61 to 63 and 66: turn sums taken apart in those of degree 1, and whole ones."""

import unittest
from itertools import product

from tests.helpers import (
    BIG, EIGHT, EIGHTYONE, FIELDS, FORTYNINE, FOUR, NINE, OTHER_EIGHT, SIXTEEN, TWENTYFIVE, TWENTYSEVEN,
    WRONG_FIELDS, alike, check_error, check_named, check_new, check_wrong, plain_minus, plain_plus, plain_put,
    plain_times, plain_told_turner, plain_turned, sample, turners_of, wrong_lists,
)
from turnpowers.division import divided_out, is_inner
from turnpowers.elements import norm
from turnpowers.errors import InvalidField, InvalidTurner, NoughtTurner, TooMany
from turnpowers.fields import Field
from turnpowers.lots import chain_count
from turnpowers.roots import is_full, space_turner
from turnpowers.spaces import Space
from turnpowers.turners import put
from turnpowers.ways import inner_ones, is_whole, outer_ones, ways

ONE_TWO_FIVE = FIELDS[13]
NAMES = ["field", "turner"]
NOUGHTS = [[], (), [0], (0, 0), [0] * 13]
FUNCTIONS = [inner_ones, outer_ones, ways, is_whole]


def less_t(field, one):
    """The turn sum of t less the element."""
    return [plain_minus(field, 0, one), 1]


def put_all(field, head, way):
    """The head times t less the elements of the way, put into one another."""
    found = [head]
    for one in way:
        found = plain_put(field, found, less_t(field, one))
    return found


def all_of(field, degree):
    """All turn sums of the degree, told."""
    return [list(row) + [head] for row in product(range(field.size), repeat=degree) for head in range(1, field.size)]


def ways_by_putting(field, degree, heads):
    """The sorted lists of all ways, of each turn sum with one of the heads that has one, as a tuple."""
    found = {}
    for way in product(range(field.size), repeat=degree):
        for head in heads:
            found.setdefault(tuple(put_all(field, head, way)), []).append(list(way))
    return found


def put_of_lesser(field, degree):
    """All that are made of two of lesser degrees, each 1 or more, as tuples."""
    found = set()
    for many in range(1, degree):
        for one in all_of(field, many):
            for other in all_of(field, degree - many):
                found.add(tuple(plain_put(field, one, other)))
    return found


class ExamplesTest(unittest.TestCase):
    def test_examples(self):
        self.assertEqual([inner_ones(EIGHT, [1, 1, 1]), outer_ones(EIGHT, [1, 1, 1])], [[2, 4, 6], [3, 5, 7]])
        self.assertEqual(ways(EIGHT, [1, 1, 1]), [[3, 6], [5, 2], [7, 4]])
        self.assertEqual([is_whole(EIGHT, [1, 1, 1]), is_whole(EIGHT, [2, 1, 1])], [False, True])
        self.assertEqual(ways(EIGHT, [6]), [[]])

    def test_point_66(self):
        for one in range(EIGHT.size):
            cube = plain_times(EIGHT, one, plain_times(EIGHT, one, one))
            total = plain_plus(EIGHT, plain_plus(EIGHT, 1, one), cube)
            self.assertIs(total == 0, one in inner_ones(EIGHT, [1, 1, 1]))
        for way in ((5, 2), (7, 4), (3, 6)):
            self.assertEqual(put_all(EIGHT, 1, way), [1, 1, 1])


class OnesTest(unittest.TestCase):
    def check_ones(self, field, turner):
        inner = [one for one in range(field.size) if is_inner(field, turner, less_t(field, one))]
        outer = [one for one in range(field.size) if divided_out(field, turner, less_t(field, one))[1] == []]
        self.assertTrue(alike(inner_ones(field, turner), inner), (field, turner))
        self.assertTrue(alike(outer_ones(field, turner), outer), (field, turner))

    def test_all_of_small_fields_by_putting(self):
        for field, degree in ((FOUR, 1), (FOUR, 2), (FOUR, 3), (EIGHT, 1), (EIGHT, 2), (NINE, 1)):
            inner, outer = {}, {}
            for one in range(field.size):
                for other in all_of(field, degree - 1):
                    inner.setdefault(tuple(plain_put(field, other, less_t(field, one))), []).append(one)
                    outer.setdefault(tuple(plain_put(field, less_t(field, one), other)), []).append(one)
            for turner in all_of(field, degree):
                self.assertEqual(inner_ones(field, turner), inner.get(tuple(turner), []))
                self.assertEqual(outer_ones(field, turner), outer.get(tuple(turner), []))

    def test_others(self):
        for field in (EIGHT, OTHER_EIGHT, SIXTEEN, NINE, TWENTYSEVEN, TWENTYFIVE):
            for turner in turners_of(field, 4, 5)[2:]:
                if plain_told_turner(turner):
                    self.check_ones(field, turner)
        for turner in ([1, 2, 3, 1], put_all(BIG, 7, [100, 3]), [1] * 13):
            self.check_ones(BIG, turner)

    def test_by_the_sum_of_point_61(self):
        for field in (EIGHT, NINE, FORTYNINE):
            for turner in ([1, 1, 1], [2, 0, 3, 1], sample(field, 12, 2) + [1]):
                for one in range(field.size):
                    total, factor = 0, 1
                    for part in turner:
                        total = plain_plus(field, total, plain_times(field, part, factor))
                        factor = plain_times(field, plain_turned(field, factor, 1), one)
                    self.assertIs(total == 0, one in inner_ones(field, turner))

    def test_edges(self):
        for field in FIELDS:
            last = field.size - 1
            for turner in ([1], [last], (last, 0), [1] + [0] * 12):
                self.assertEqual([inner_ones(field, turner), outer_ones(field, turner)], [[], []])
            self.assertEqual([inner_ones(field, [0, last]), outer_ones(field, (0, last, 0))], [[0], [0]])
            self.assertEqual([inner_ones(field, [0] * 12 + [1]), outer_ones(field, [0] * 12 + [1])], [[0], [0]])
            self.assertEqual(inner_ones(field, less_t(field, last)), [last])
            self.assertEqual(outer_ones(field, less_t(field, last)), [last])
            self.assertIn(0, inner_ones(field, [0, 1, last]))
            self.assertNotIn(0, inner_ones(field, [1, 1, last]))
            # All whose norm is 1.
            turner = [field.prime - 1] + [0] * (field.turns - 1) + [1]
            found = [one for one in range(field.size) if norm(field, one) == 1]
            self.assertEqual([inner_ones(field, turner), outer_ones(field, turner)], [found, found])

    def test_longest(self):
        for field in (EIGHT, NINE):
            self.check_ones(field, put_all(field, 5, [3, 1, 4, 1, 5, 2, 6, 5, 3, 5, 7, 7]))
            self.check_ones(field, sample(field, 12, 3) + [1])

    def test_by_position_and_by_name(self):
        check_named(self, inner_ones, NAMES, [EIGHT, [1, 1, 1]], [2, 4, 6])
        check_named(self, inner_ones, NAMES, [EIGHT, (1, 1, 1, 0)], [2, 4, 6])
        check_named(self, outer_ones, NAMES, [EIGHT, [1, 1, 1]], [3, 5, 7])
        check_named(self, outer_ones, NAMES, [EIGHT, (1, 1, 1)], [3, 5, 7])


class WaysTest(unittest.TestCase):
    def test_all_of_small_fields(self):
        for field, degree, heads in ((FOUR, 1, (1, 2, 3)), (FOUR, 2, (1, 2, 3)), (FOUR, 3, (1, 2, 3)), (FOUR, 4, (1,)),
                                     (EIGHT, 1, (1, 5)), (EIGHT, 2, (1, 6)), (NINE, 2, (1, 2, 4))):
            found = ways_by_putting(field, degree, heads)
            for turner in all_of(field, degree):
                if turner[-1] in heads:
                    self.assertTrue(alike(ways(field, turner), found.get(tuple(turner), [])), (field, turner))

    def test_of_degree_three(self):
        for field, heads in ((EIGHT, (1,)), (NINE, (7,))):
            found = ways_by_putting(field, 3, heads)
            for turner in sorted(found)[::7]:
                self.assertEqual(ways(field, turner), found[turner])

    def test_they_make_it(self):
        for field in (TWENTYSEVEN, TWENTYFIVE, BIG, FORTYNINE):
            for way in ([1], [2, 3], [3, 0], [5, 1, 4], [0, 0, 2], [1, 2, 1, 2], [6, 0, 3, 5]):
                turner = put_all(field, field.size - 1, way)
                found = ways(field, turner)
                self.assertIn(way, found)
                self.assertEqual(found, sorted(found))
                self.assertEqual(len({tuple(one) for one in found}), len(found))
                for other in found:
                    self.assertEqual(put_all(field, field.size - 1, other), turner)

    def test_without_any_way(self):
        self.assertEqual(ways(EIGHT, [2, 1, 1]), [])
        self.assertEqual(ways(EIGHT, put(EIGHT, [0, 1], [2, 1, 1])), [])
        self.assertEqual(ways(EIGHT, put(EIGHT, [2, 1, 1], [0, 0, 1])), [])
        self.assertEqual(inner_ones(EIGHT, put(EIGHT, [2, 1, 1], [0, 0, 1])), [0])

    def test_of_degree_nought_and_one(self):
        for field in FIELDS:
            for turner in ([1], [field.size - 1], (2, 0), [1] + [0] * 12):
                self.assertEqual(ways(field, turner), [[]])
            for one in (0, 1, field.size - 1):
                self.assertEqual(ways(field, put_all(field, field.size - 1, [one])), [[one]])
                self.assertEqual(ways(field, tuple(less_t(field, one)) + (0, 0)), [[one]])

    def test_first_element_nought(self):
        for field in FIELDS:
            for many in range(1, 5):
                self.assertEqual(ways(field, [0] * many + [field.size - 1]), [[0] * many])
        self.assertEqual(ways(EIGHT, [0, 1, 1]), ways_by_putting(EIGHT, 2, [1])[0, 1, 1])

    def test_full_ones_have_as_many_as_chains(self):
        for field in FIELDS:
            for many in range(min(field.turns, 4) + 1):
                space = Space(field, [field.prime ** at for at in range(many)])
                turner = space_turner(space)
                self.assertTrue(is_full(field, turner))
                count = chain_count(field.prime, many)
                if count > 400:
                    check_error(self, TooMany, {"what": "ways", "limit": 400}, ways, field, turner)
                else:
                    self.assertEqual(len(ways(field, turner)), count)
        self.assertEqual(len(ways(SIXTEEN, [1, 0, 0, 0, 1])), 315)

    def test_limit_of_the_ways(self):
        # The ways of two parts of unlike norms, put into one another, are mingled in all sequences.
        first, second = [6, 0, 1], [5, 0, 1]
        self.assertEqual([len(ways(FORTYNINE, first)), len(ways(FORTYNINE, second))], [8, 8])
        self.assertEqual(len(ways(FORTYNINE, put(FORTYNINE, first, second))), 384)
        self.assertEqual(len(ways(ONE_TWO_FIVE, [4, 0, 0, 1])), 186)
        for one in (0, 2):
            turner = put(ONE_TWO_FIVE, [4, 0, 0, 1], less_t(ONE_TWO_FIVE, one))
            check_error(self, TooMany, {"what": "ways", "limit": 400}, ways, ONE_TWO_FIVE, turner)
            check_error(self, TooMany, {"what": "ways", "limit": 400}, ways, ONE_TWO_FIVE, (*turner, 0))
        check_error(self, TooMany, {"what": "ways", "limit": 400}, ways, EIGHTYONE, [2, 0, 0, 0, 1])
        check_error(self, TooMany, {"what": "ways", "limit": 400}, ways, EIGHTYONE, (7, 0, 0, 0, 5, 0))

    def test_any_two_have_like_elements(self):
        for field in (NINE, TWENTYSEVEN, TWENTYFIVE):
            for way in ([1, 2, 3, 4], [0, 3, 1, 6], [5, 5, 0], [7, 2], [1, 8, 1]):
                norms = [sorted([norm(field, one) for one in other]) for other in ways(field, put_all(field, 2, way))]
                self.assertTrue(norms)
                self.assertEqual(norms, [sorted([norm(field, one) for one in way])] * len(norms))

    def test_limit_of_the_degree(self):
        for field in FIELDS:
            for turner in ([0] * 5 + [1], [1] * 6, (1,) * 13, [0] * 12 + [1], [2] + [0] * 4 + [1, 0]):
                check_error(self, TooMany, {"what": "degree", "limit": 4}, ways, field, turner)
            self.assertEqual(ways(field, [0] * 4 + [1] + [0] * 8), [[0] * 4])
            self.assertEqual(ways(field, (0, 0, 0, 0, 1, 0)), [[0] * 4])

    def test_by_position_and_by_name(self):
        check_named(self, ways, NAMES, [EIGHT, [1, 1, 1]], [[3, 6], [5, 2], [7, 4]])
        check_named(self, ways, NAMES, [EIGHT, (1, 1, 1, 0)], [[3, 6], [5, 2], [7, 4]])
        check_named(self, ways, NAMES, [EIGHT, [6]], [[]])
        check_named(self, ways, NAMES, [EIGHT, [2, 1, 1]], [])
        found = ways(SIXTEEN, [1, 0, 0, 0, 1])
        self.assertEqual(len({id(way) for way in found}), 315)
        check_new(self, found, [ways(SIXTEEN, [1, 0, 0, 0, 1])])


class WholeTest(unittest.TestCase):
    def test_all_of_small_fields(self):
        for field, degree in ((FOUR, 2), (FOUR, 3), (EIGHT, 2), (NINE, 2)):
            parted = put_of_lesser(field, degree)
            wholes = 0
            for turner in all_of(field, degree):
                self.assertIs(is_whole(field, turner), tuple(turner) not in parted)
                wholes += is_whole(field, turner)
            self.assertGreater(wholes, 0)

    def test_of_degree_three(self):
        whole = [2, 1, 1]
        outer, inner = put(EIGHT, less_t(EIGHT, 3), whole), put(EIGHT, whole, less_t(EIGHT, 3))
        for turner in (outer, inner):
            self.assertIs(is_whole(EIGHT, turner), False)
        for field in (EIGHT, NINE, TWENTYSEVEN):
            for turner in turners_of(field, 4, 1)[2:]:
                row = plain_told_turner(turner)
                if len(row) == 4:
                    either = inner_ones(field, row) + outer_ones(field, row)
                    self.assertIs(is_whole(field, turner), either == [])

    def test_edges(self):
        for field in FIELDS:
            last = field.size - 1
            for turner in ([1], [last], (last, 0), [last] + [0] * 12):
                self.assertIs(is_whole(field, turner), False)
            for turner in ([0, 1], [last, 1], (1, last, 0), [1, 1] + [0] * 11):
                self.assertIs(is_whole(field, turner), True)
            for turner in ([0, 1, 1], [0, 0, 1], (0, 0, 0, last), [0, 1, 0, 1], [0, 0, 0, 1, 0]):
                self.assertIs(is_whole(field, turner), False)

    def test_limit_of_the_degree(self):
        for field in FIELDS:
            for turner in ([0, 0, 0, 0, 1], [1] * 5, (1,) * 13, [0] * 12 + [1], (1, 1, 1, 1, 1, 0)):
                check_error(self, TooMany, {"what": "degree", "limit": 3}, is_whole, field, turner)
                check_error(self, TooMany, {"what": "degree", "limit": 3}, is_whole, turner=turner, field=field)

    def test_by_position_and_by_name(self):
        check_named(self, is_whole, NAMES, [EIGHT, [1, 1, 1]], False)
        check_named(self, is_whole, NAMES, [EIGHT, (2, 1, 1)], True)


class ErrorsTest(unittest.TestCase):
    def test_wrong_values(self):
        for field in (EIGHT, NINE):
            for function in FUNCTIONS:
                check_wrong(self, function, [
                    ("field", field, WRONG_FIELDS, InvalidField),
                    ("turner", [1, 2], wrong_lists(field, 13), InvalidTurner),
                ])

    def test_nought(self):
        for field in FIELDS:
            for function in FUNCTIONS:
                for nought in NOUGHTS:
                    check_error(self, NoughtTurner, {}, function, field, nought)
                    check_error(self, NoughtTurner, {}, function, turner=nought, field=field)
                check_error(self, InvalidTurner, {"value": [0] * 14}, function, field, [0] * 14)
                check_error(self, InvalidTurner, {"value": [0, field.size]}, function, field, [0, field.size])
                check_error(self, InvalidField, {"value": None}, function, None, [])
        check_named(self, inner_ones, NAMES, [Field(2, (1, 1, 0, 1)), (0, 1)], [0])


if __name__ == "__main__":
    unittest.main()
