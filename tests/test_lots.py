"""Points 34 and 35: how many spaces and chains there are, and the lists of all."""

import unittest
from itertools import product

from tests.helpers import (
    BIG, EIGHT, EIGHTYONE, FIELDS, FORTYNINE, FOUR, NINE, SIXTEEN, TWENTYFIVE, TWENTYSEVEN, WRONG_FIELDS,
    WRONG_PRIMES, WRONG_SPACES, alike, check_error, check_named, check_new, check_wrong, wrong_manys,
)
from turnpowers.errors import InvalidField, InvalidMany, InvalidPrime, InvalidSpace, TooMany
from turnpowers.fields import Field
from turnpowers.lots import chain_count, space_chains, space_count, spaces_of
from turnpowers.spaces import Space, is_within

THIRTYTWO, SIXTYFOUR = FIELDS[5], FIELDS[6]


def told_count(prime, turns, many):
    """How many spaces there are, as point 34 tells it."""
    above, below = 1, 1
    for done in range(many):
        above *= prime ** turns - prime ** done
        below *= prime ** many - prime ** done
    return above // below


def told_chains(prime, many):
    """How many chains there are, as point 35 tells it."""
    found = 1
    for factor in range(1, many + 1):
        found *= sum(prime ** at for at in range(factor))
    return found


class ExamplesTest(unittest.TestCase):
    def test_spaces(self):
        self.assertEqual([space_count(EIGHT, 1), space_count(NINE, 1)], [7, 4])
        self.assertEqual([one.steps() for one in spaces_of(NINE, 1)], [[1], [3], [4], [5]])
        self.assertEqual([len(spaces_of(EIGHT, 2)), spaces_of(EIGHT, 0) == [Space(EIGHT, [])]], [7, True])

    def test_chains(self):
        self.assertEqual([chain_count(2, 3), chain_count(3, 2)], [21, 4])
        found = [[one.steps() for one in chain] for chain in space_chains(Space(EIGHT, [6, 5]))]
        self.assertEqual(found, [[[], [3], [3, 5]], [[], [5], [3, 5]], [[], [6], [3, 5]]])


class SpacesTest(unittest.TestCase):
    def test_counts(self):
        for field in FIELDS:
            for many in range(field.turns + 1):
                expected = told_count(field.prime, field.turns, many)
                self.assertTrue(alike(space_count(field, many), expected))
                self.assertEqual(space_count(field, field.turns - many), expected)
        self.assertEqual([space_count(EIGHT, many) for many in range(4)], [1, 7, 7, 1])
        self.assertEqual([space_count(BIG, many) for many in range(8)], [1, 127, 2667, 11811, 11811, 2667, 127, 1])

    def test_all_of_small_fields(self):
        for field in (FOUR, EIGHT, SIXTEEN, NINE, TWENTYSEVEN, TWENTYFIVE, FORTYNINE):
            lots = {0: [[]]}
            for many in range(1, field.turns + 1):
                made = [Space(field, steps + [one]).steps() for steps in lots[many - 1] for one in range(field.size)]
                lots[many] = sorted(list(row) for row in {tuple(row) for row in made if len(row) == many})
            for many in lots:
                found = spaces_of(field, many)
                self.assertIs(type(found), list)
                self.assertEqual([one.steps() for one in found], lots[many])
                self.assertEqual([type(one) for one in found], [Space] * len(lots[many]))
                self.assertEqual([one.field() for one in found], [field] * len(lots[many]))
                self.assertEqual([one.dimension for one in found], [many] * len(lots[many]))

    def test_all_of_greater_fields(self):
        for field in FIELDS:
            for many in range(field.turns + 1):
                if space_count(field, many) <= 400:
                    found = [one.steps() for one in spaces_of(field, many)]
                    self.assertEqual(len(found), space_count(field, many))
                    self.assertEqual(found, sorted(found))
                    self.assertEqual(len({tuple(steps) for steps in found}), len(found))
                    self.assertTrue(all(Space(field, steps).steps() == steps for steps in found))

    def test_limit(self):
        self.assertEqual([space_count(THIRTYTWO, 2), len(spaces_of(THIRTYTWO, 2))], [155, 155])
        self.assertEqual([space_count(EIGHTYONE, 2), len(spaces_of(EIGHTYONE, 2))], [130, 130])
        self.assertEqual([len(spaces_of(BIG, 1)), len(spaces_of(BIG, 6)), len(spaces_of(BIG, 7))], [127, 127, 1])
        for field, many in ((BIG, 2), (BIG, 3), (BIG, 4), (BIG, 5), (SIXTYFOUR, 2), (SIXTYFOUR, 3), (SIXTYFOUR, 4)):
            self.assertGreater(space_count(field, many), 400)
            check_error(self, TooMany, {"what": "spaces", "limit": 400}, spaces_of, field, many)

    def test_new_lists_by_position_and_by_name(self):
        lines = [Space(NINE, [one]) for one in (1, 3, 4, 5)]
        check_named(self, spaces_of, ["field", "many"], [NINE, 1], lines)
        check_named(self, space_count, ["field", "many"], [NINE, 1], 4)

    def test_wrong_values(self):
        for field in FIELDS:
            for function in (space_count, spaces_of):
                check_error(self, InvalidMany, {"value": field.turns + 1}, function, field, field.turns + 1)
        for field in (EIGHT, NINE):
            for function in (space_count, spaces_of):
                check_wrong(self, function, [
                    ("field", field, WRONG_FIELDS, InvalidField),
                    ("many", 1, wrong_manys(field.turns), InvalidMany),
                ])


class ChainsTest(unittest.TestCase):
    def test_counts(self):
        for prime in (2, 3, 5, 7):
            for many in range(8):
                check_named(self, chain_count, ["prime", "many"], [prime, many], told_chains(prime, many))
        self.assertEqual([chain_count(2, 0), chain_count(7, 0), chain_count(7, 1), chain_count(7, 2)], [1, 1, 1, 8])

    def plain_chains(self, space):
        """All chains, from the top down, as lists of steps."""
        if space.dimension == 0:
            return [[[]]]
        below = [one for one in spaces_of(space.field(), space.dimension - 1) if is_within(one, space)]
        return [chain + [space.steps()] for one in below for chain in self.plain_chains(one)]

    def check_chains(self, space):
        found = space_chains(space)
        self.assertEqual(len(found), chain_count(space.field().prime, space.dimension))
        self.assertEqual([[one.steps() for one in chain] for chain in found], sorted(self.plain_chains(space)))
        self.assertEqual({type(part) for part in [found] + found}, {list})
        for chain in found:
            self.assertEqual([type(one) for one in chain], [Space] * (space.dimension + 1))
            self.assertEqual([one.dimension for one in chain], list(range(space.dimension + 1)))
            self.assertTrue(chain[-1] == space)

    def test_all_chains(self):
        for field in (FOUR, EIGHT, NINE, TWENTYSEVEN, TWENTYFIVE, FORTYNINE):
            for many in range(field.turns + 1):
                for space in spaces_of(field, many)[:5]:
                    self.check_chains(space)

    def test_chains_of_dimensions_three_and_four(self):
        self.check_chains(Space(SIXTEEN, [1, 2, 4, 8]))
        self.check_chains(Space(SIXTEEN, [3, 5, 9]))
        self.check_chains(Space(THIRTYTWO, [3, 9, 17, 30]))
        self.check_chains(Space(FIELDS[13], [1, 5, 25]))
        self.check_chains(Space(EIGHTYONE, [1, 10, 30]))

    def test_limit(self):
        self.assertEqual([chain_count(2, 4), chain_count(2, 5), chain_count(3, 3), chain_count(3, 4)],
                         [315, 9765, 52, 2080])
        self.assertEqual(len(space_chains(Space(THIRTYTWO, [1, 2, 4, 8]))), 315)
        spaces = [Space(THIRTYTWO, [1, 2, 4, 8, 16]), Space(BIG, [1, 2, 4, 8, 16, 32, 64]),
                  Space(BIG, [1, 3, 5, 9, 17, 33]), Space(EIGHTYONE, [1, 3, 9, 27])]
        for space in spaces:
            check_error(self, TooMany, {"what": "chains", "limit": 400}, space_chains, space)

    def test_new_lists_by_position_and_by_name(self):
        space = Space(EIGHT, [6])
        check_named(self, space_chains, ["space"], [space], [[Space(EIGHT, []), Space(EIGHT, [6])]])
        check_named(self, space_chains, ["space"], [Space(NINE, [])], [[Space(NINE, [])]])
        plane = Space(EIGHT, [6, 5])
        first = space_chains(plane)
        check_new(self, first, [space_chains(plane)])
        for one, other in product(range(3), repeat=2):
            if one != other:
                self.assertIsNot(first[one], first[other])

    def test_wrong_values(self):
        check_wrong(self, chain_count, [
            ("prime", 2, WRONG_PRIMES, InvalidPrime),
            ("many", 3, wrong_manys(7), InvalidMany),
        ])
        check_wrong(self, space_chains, [("space", Space(EIGHT, [1]), WRONG_SPACES, InvalidSpace)])
        self.assertEqual(len(space_chains(Space(Field(2, (1, 1, 0, 1)), (1, 2)))), 3)


if __name__ == "__main__":
    unittest.main()
