"""The names, parameters and places of all that the document's interface lists."""

import importlib
import inspect
import unittest

FUNCTIONS = """basics: is_integer(value), is_count(value)
fields: is_modulus(prime, value)
elements: is_element(field, value), plus(field, one, other), minus(field, one, other), times(field, one, other)
elements: over(field, one, other), power(field, one, many), turned(field, one, many), turned_back(field, one, many)
elements: norm(field, one), trace(field, one), figures(field, one), by_figures(field, value), rank(field, some)
elements: are_free(field, some), mixture(field, some, value)
turners: is_turner(field, value), told(field, turner), degree(field, turner), sum_of(field, turner, other)
turners: less(field, turner, other), scaled(field, turner, one), put(field, turner, other), worth(field, turner, one)
division: divided_in(field, turner, other), divided_out(field, turner, other), is_inner(field, turner, other)
division: common_inner(field, turner, other), common_outer(field, turner, other), joint(field, turner, other)
spaces: meet(space, other), join(space, other), is_within(space, other)
lots: space_count(field, many), spaces_of(field, many), chain_count(prime, many), space_chains(space)
roots: space_turner(space), roots(field, turner), is_full(field, turner)
moore: moore_table(field, some), determinant(field, rows), element_rank(field, rows), free_product(field, some)
values: through(field, points, worths)
maps: table_of(field, turner), turner_by(field, value), as_map(field, turner), are_one_map(field, turner, other)
maps: map_rank(field, turner)
mirrors: dickson(field, turner), mirror(field, turner)
ways: inner_ones(field, turner), outer_ones(field, turner), ways(field, turner), is_whole(field, turner)
likes: like_by(field, one, other), is_like_by(field, one, other, value), are_like(field, one, other), like_lots(field)
middles: is_middle(field, turner), least_middle(field, turner)
books: word_of(book, turner), is_word(book, value), turner_of(book, word), off(book, word, other), least_off(book)
ranks: rank_row(book), contrary(book), is_contrary(book, value)
mended: mended(book, word), is_near(book, word, turner), solved_pair(book, word), is_pair(book, word, value)
mended: is_far_pair(book, word, value)
known: spoilt(book, word, turner), mended_within(book, word, space)
texts: sorts(), is_of_sort(sort, value), written(sort, value)
readers: read(text)
claims: words(), is_claim(value), is_true(claim), contrary(claim), paper_of(claim), is_paper_of(claim, value)
commands: is_name(value), is_command(value), is_deed(value)
desk: tried(desk, action)"""

CLASSES = {
    ("fields", "Field(prime, modulus)"): ("prime turns size", "modulus()", "__eq__ __repr__"),
    ("spaces", "Space(field, some)"): ("dimension", "steps() has(one) listed() field()", "__eq__ __repr__"),
    ("books", "Book(field, points, many)"): ("length many reach", "points() field()", "__eq__ __repr__"),
    ("desk", "Desk()"): (
        "names labels",
        "claim_of(label) do(command) do_all(*commands) attempt(*commands) attach(label,paper) fits(label) lines() copy() "
        "again(lines)",
        "__len__ __getitem__ __contains__ __call__",
    ),
    ("desk", "Trial(desk)"): ("", "", "__enter__ __exit__"),
}


def told_parameters(function):
    """The parameters of a function as they are told here."""
    found = inspect.signature(function).parameters.values()
    return [("*" if one.kind is one.VAR_POSITIONAL else "") + one.name for one in found]


def split_call(told):
    """The name and the parameters of a function as it is told here."""
    name, _, rest = told.partition("(")
    return name, [one.strip() for one in rest[:-1].split(",") if one.strip()]


def listed():
    """The module and the told form of each function."""
    for line in FUNCTIONS.split("\n"):
        module, _, functions = line.partition(": ")
        for one in functions.replace("), ", ")|").split("|"):
            yield module, one


class InterfaceTest(unittest.TestCase):
    def test_functions(self):
        for module, told in listed():
            name, parameters = split_call(told)
            function = getattr(importlib.import_module("turnpowers." + module), name)
            self.assertTrue(inspect.isfunction(function), told)
            self.assertEqual(function.__module__, "turnpowers." + module, told)
            self.assertEqual(told_parameters(function), parameters, told)

    def test_classes(self):
        for (module, told), (properties, methods, doubles) in CLASSES.items():
            name, parameters = split_call(told)
            made = getattr(importlib.import_module("turnpowers." + module), name)
            self.assertEqual(made.__module__, "turnpowers." + module)
            self.assertEqual(told_parameters(made), parameters)
            for one in properties.split():
                self.assertIsInstance(vars(made)[one], property, (name, one))
            for one in methods.split():
                method, told_ones = split_call(one)
                self.assertIn(method, vars(made))
                known = told_parameters(getattr(made, method))
                self.assertEqual(known[0 if method == "again" else 1:], told_ones, (name, method))
            for one in doubles.split():
                self.assertIn(one, vars(made), name)

    def test_kinds_of_methods(self):
        desk = importlib.import_module("turnpowers.desk").Desk
        self.assertIsInstance(vars(desk)["again"], classmethod)


if __name__ == "__main__":
    unittest.main()
