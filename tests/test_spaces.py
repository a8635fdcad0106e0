"""Points 31 to 33: spaces, their steps, meet and join."""

import unittest
from itertools import product

from tests.helpers import (
    BIG, EIGHT, EIGHTYONE, FIELDS, FORTYNINE, FOUR, NINE, OTHER_EIGHT, OTHER_NINE, SIXTEEN, TWENTYFIVE, TWENTYSEVEN,
    WRONG_FIELDS, WRONG_SPACES, alike, check_error, check_named, check_wrong, plain_figures, plain_mixtures, sample,
    wrong_lists, wrong_ones,
)
from turnpowers.elements import are_free, rank
from turnpowers.errors import InvalidElement, InvalidElements, InvalidField, InvalidSpace, UnlikeFields
from turnpowers.fields import Field
from turnpowers.spaces import Space, is_within, join, meet

NAMES = ["space", "other"]


def end_of(field, one):
    """The position of the last figure of an element that is not 0."""
    found = plain_figures(field, one)
    while found[-1] == 0:
        found.pop()
    return len(found) - 1


def whole_of(field):
    """Free elements of which the mixtures are the whole field."""
    return [field.prime ** at for at in range(field.turns)]


def some_spaces(field):
    """Some spaces of all dimensions, as the elements that they are made of."""
    rows = [[], [0], [1], whole_of(field), whole_of(field)[1:], [field.size - 1, 1]]
    return rows + [sample(field, many, start) for many in (1, 2, 3) for start in (1, 2, 5)]


class ExamplesTest(unittest.TestCase):
    def setUp(self):
        self.plane = Space(EIGHT, [6, 5])

    def test_spaces(self):
        line = Space(NINE, [5])
        self.assertEqual([self.plane.steps(), self.plane.dimension, self.plane.listed()], [[3, 5], 2, [0, 3, 5, 6]])
        self.assertEqual([self.plane.has(6), self.plane.has(1)], [True, False])
        self.assertEqual([line.steps(), line.listed()], [[5], [0, 5, 7]])
        self.assertEqual(repr(self.plane), "Space(Field(2, [1, 1, 0, 1]), [3, 5])")

    def test_meet_and_join(self):
        plane = self.plane
        self.assertEqual(meet(plane, Space(EIGHT, [1, 2])).steps(), [3])
        self.assertEqual(join(plane, Space(EIGHT, [2])).steps(), [1, 2, 4])
        self.assertEqual([is_within(Space(EIGHT, [6]), plane), is_within(plane, Space(EIGHT, [6]))], [True, False])


class SpaceTest(unittest.TestCase):
    def check_space(self, field, some):
        space = Space(field, some)
        held = sorted(set(plain_mixtures(field, some)))
        self.assertTrue(alike(space.listed(), held), (field, some))
        self.assertEqual(field.prime ** space.dimension, len(held))
        self.assertTrue(alike(space.dimension, rank(field, some)))
        self.assertEqual([space.has(one) for one in range(field.size)], [one in held for one in range(field.size)])
        self.check_steps(field, space.steps(), held)
        self.assertTrue(space == Space(field, space.steps()))
        self.assertTrue(space == Space(field, space.steps()[::-1]))
        self.assertTrue(space == Space(field, tuple(some)))
        self.assertEqual(repr(space), f"Space({field!r}, {space.steps()!r})")

    def check_steps(self, field, steps, held):
        self.assertIs(type(steps), list)
        self.assertEqual(steps, sorted(steps))
        self.assertTrue(are_free(field, steps))
        self.assertEqual(field.prime ** len(steps), len(held))
        ends = [end_of(field, step) for step in steps]
        self.assertEqual(len(ends), len(set(ends)))
        for end, step in zip(ends, steps):
            self.assertIn(step, held)
            for other in steps:
                self.assertEqual(plain_figures(field, other)[end], 1 if other == step else 0)

    def test_of_small_fields(self):
        for field, most in ((FOUR, 3), (EIGHT, 2), (NINE, 2)):
            for many in range(most + 1):
                for some in product(range(field.size), repeat=many):
                    self.check_space(field, list(some))

    def test_of_others(self):
        for field in (EIGHT, SIXTEEN, TWENTYSEVEN, EIGHTYONE, TWENTYFIVE, FORTYNINE):
            for some in some_spaces(field):
                self.check_space(field, some)

    def test_of_the_greatest(self):
        for some in ([127], [3, 9, 100], [64, 65, 66, 67, 68], [5, 6, 7, 8, 9, 10, 11]):
            self.check_space(BIG, some)

    def test_no_elements_and_nought(self):
        for field in FIELDS:
            for some in ([], (), [0], (0, 0), [0] * 12):
                space = Space(field, some)
                self.assertEqual([space.steps(), space.listed(), space.dimension], [[], [0], 0])
                self.assertEqual([space.has(0), space.has(1)], [True, False])
                self.assertEqual(repr(space), f"Space({field!r}, [])")
                self.assertTrue(space == Space(field, []))

    def test_whole_field(self):
        for field in FIELDS:
            space = Space(field, whole_of(field))
            self.assertEqual([space.steps(), space.dimension], [whole_of(field), field.turns])
            self.assertEqual(space.listed(), list(range(field.size)))
            self.assertTrue(all(space.has(one) for one in range(field.size)))

    def test_twelve_elements(self):
        self.assertEqual(Space(EIGHT, [6, 5, 3] * 4).steps(), [3, 5])
        self.assertEqual(Space(NINE, (8,) * 12).steps(), [4])
        self.assertEqual(Space(BIG, list(range(1, 13))).listed(), list(range(16)))

    def test_fact_all_closed_lots_are_spaces(self):
        lots = {tuple(Space(NINE, [one, other]).listed()) for one in range(9) for other in range(9)}
        self.assertEqual(sorted(len(lot) for lot in lots), [1, 3, 3, 3, 3, 9])

    def test_field_and_names(self):
        space = Space(some=[6, 5], field=EIGHT)
        self.assertEqual(space.field(), EIGHT)
        self.assertIs(type(space.field()), Field)
        self.assertIs(space.has(one=6), True)

    def test_it_never_changes(self):
        some = [6, 5]
        space = Space(EIGHT, some)
        self.assertEqual(some, [6, 5])
        some[0] = 1
        for told in (space.steps, space.listed):
            first = told()
            first.append(7)
            self.assertNotEqual(told(), first)
        self.assertEqual([space.steps(), space.listed(), space.dimension], [[3, 5], [0, 3, 5, 6], 2])
        with self.assertRaises(AttributeError):
            space.dimension = 1
        self.assertEqual(repr(space), "Space(Field(2, [1, 1, 0, 1]), [3, 5])")

    def test_equal(self):
        plane = Space(EIGHT, [6, 5])
        self.assertTrue(plane == Space(Field(2, (1, 1, 0, 1)), (3, 6)))
        self.assertIs(plane != Space(EIGHT, [3, 6]), False)
        for other in (Space(EIGHT, [3]), Space(EIGHT, [1, 2]), Space(OTHER_EIGHT, [6, 5]), Space(NINE, [6, 5])):
            self.assertIs(plane == other, False)
            self.assertIs(plane != other, True)
        for value in (None, True, [3, 5], (EIGHT, [3, 5]), "Space", EIGHT, repr(plane), 2):
            self.assertIs(plane == value, False)
            self.assertIs(value == plane, False)

    def test_wrong_values(self):
        for field in (EIGHT, NINE):
            check_wrong(self, Space, [
                ("field", field, WRONG_FIELDS, InvalidField),
                ("some", [1, 2], wrong_lists(field, 12), InvalidElements),
            ])
            check_wrong(self, Space(field, [5]).has, [("one", 1, wrong_ones(field), InvalidElement)])


class MeetJoinTest(unittest.TestCase):
    def check_two(self, space, other):
        field, held, beside = space.field(), set(space.listed()), set(other.listed())
        found = meet(space, other)
        self.assertIs(type(found), Space)
        self.assertEqual(set(found.listed()), held & beside)
        both = join(space, other)
        self.assertIs(type(both), Space)
        self.assertEqual(set(both.listed()), set(plain_mixtures(field, space.steps() + other.steps())))
        self.assertEqual(found.dimension + both.dimension, space.dimension + other.dimension)
        self.assertIs(is_within(space, other), held <= beside)
        self.assertIs(is_within(space, other), found == space)
        self.assertEqual([found.field(), both.field()], [field, field])

    def test_all_of_small_fields(self):
        for field, most in ((FOUR, 2), (NINE, 2), (EIGHT, 1)):
            lots = [list(some) for many in range(most + 1) for some in product(range(field.size), repeat=many)]
            spaces = [Space(field, some) for some in lots]
            for space in spaces:
                for other in spaces[::3] + [Space(field, whole_of(field))]:
                    self.check_two(space, other)

    def test_others(self):
        for field in (EIGHT, SIXTEEN, TWENTYSEVEN, TWENTYFIVE, FORTYNINE):
            spaces = [Space(field, some) for some in some_spaces(field)]
            for space in spaces:
                for other in spaces[::2]:
                    self.check_two(space, other)

    def test_edges(self):
        for field in FIELDS:
            none, whole, line = Space(field, []), Space(field, whole_of(field)), Space(field, [field.size - 1])
            self.assertEqual([meet(none, whole), join(none, whole)], [none, whole])
            self.assertEqual([meet(whole, none), join(whole, none)], [none, whole])
            self.assertEqual([meet(whole, line), join(whole, line)], [line, whole])
            self.assertEqual([meet(line, line), join(line, line)], [line, line])
            self.assertEqual([meet(whole, whole), join(whole, whole)], [whole, whole])
            self.assertEqual([is_within(none, line), is_within(line, none)], [True, False])
            self.assertEqual([is_within(line, whole), is_within(whole, line)], [True, False])
            self.assertEqual([is_within(line, line), is_within(none, none), is_within(whole, whole)], [True] * 3)

    def test_of_the_greatest(self):
        space, other = Space(BIG, [1, 2, 4, 8, 16, 32]), Space(BIG, [2, 4, 8, 16, 32, 64])
        self.assertEqual(meet(space, other).steps(), [2, 4, 8, 16, 32])
        self.assertEqual(join(space, other).steps(), [1, 2, 4, 8, 16, 32, 64])

    def test_unlike_fields(self):
        pairs = [(Space(EIGHT, [1]), Space(OTHER_EIGHT, [1])), (Space(NINE, []), Space(OTHER_NINE, [])),
                 (Space(EIGHT, [1]), Space(NINE, [1])), (Space(EIGHT, []), Space(SIXTEEN, []))]
        for function in (meet, join, is_within):
            for one, other in pairs:
                check_error(self, UnlikeFields, {}, function, one, other)
                check_error(self, UnlikeFields, {}, function, other=one, space=other)

    def test_fields_that_are_equal_but_not_one(self):
        space, other = Space(EIGHT, [6, 5]), Space(Field(2, (1, 1, 0, 1)), [1, 2])
        self.assertEqual([meet(space, other).steps(), join(space, other).steps()], [[3], [1, 2, 4]])
        self.assertIs(is_within(space, other), False)

    def test_by_position_and_by_name(self):
        space, other = Space(EIGHT, [6, 5]), Space(EIGHT, [1, 2])
        check_named(self, meet, NAMES, [space, other], Space(EIGHT, [3]))
        check_named(self, join, NAMES, [space, other], Space(EIGHT, [1, 2, 4]))
        check_named(self, is_within, NAMES, [space, other], False)
        check_named(self, is_within, NAMES, [Space(EIGHT, [6]), space], True)
        self.assertEqual([repr(space), repr(other)], [repr(Space(EIGHT, [3, 5])), repr(Space(EIGHT, [1, 2]))])

    def test_wrong_values(self):
        good = Space(EIGHT, [1])
        for function in (meet, join, is_within):
            check_wrong(self, function, [
                ("space", good, WRONG_SPACES, InvalidSpace),
                ("other", good, WRONG_SPACES, InvalidSpace),
            ])
            # The parameters come ahead of the unlike fields.
            check_error(self, InvalidSpace, {"value": NINE}, function, good, NINE)


if __name__ == "__main__":
    unittest.main()
