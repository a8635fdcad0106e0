"""The errors: their bases, attributes and constructors."""

import unittest

from turnpowers import errors

BASES = {
    "TurnError": ValueError,
    "MissingError": LookupError,
    "StateError": RuntimeError,
    "LimitError": ArithmeticError,
}

LISTED = {
    "TurnError": {
        "InvalidBook": ["value"], "InvalidElement": ["value"], "InvalidElements": ["value"],
        "InvalidField": ["value"], "InvalidMany": ["value"], "InvalidSpace": ["value"], "InvalidTurner": ["value"],
        "InvalidWord": ["value"], "InvalidClaim": ["value"], "InvalidCommand": ["value"],
        "InvalidFigures": ["value"], "InvalidLines": ["position"], "InvalidModulus": ["value"],
        "InvalidPaper": ["value"], "InvalidPoints": ["value"], "InvalidPosition": ["value"],
        "InvalidPrime": ["value"], "InvalidRows": ["value"], "InvalidSort": ["value"], "InvalidTable": ["value"],
        "InvalidText": ["line"], "InvalidValue": ["value"],
    },
    "MissingError": {"UnknownLabel": ["value"], "UnknownName": ["value"]},
    "StateError": {
        "CommandFailed": ["position"], "DividedByNought": [], "LabelTaken": ["label"], "NameTaken": ["name"],
        "NotNear": [], "NotSquare": [], "NothingToRedo": [], "NothingToUndo": [], "NoughtTurner": [],
        "UnlikeFields": [],
    },
    "LimitError": {"TooMany": ["what", "limit"]},
}

ANY = [0, -1, True, None, "word", "", [1, [2]], (1, 2), {}, 10 ** 600, object]


class ErrorsTest(unittest.TestCase):
    def test_bases(self):
        for name, base in BASES.items():
            self.assertEqual(getattr(errors, name).__bases__, (base,))
            for below in LISTED[name]:
                self.assertEqual(getattr(errors, below).__bases__, (getattr(errors, name),), below)

    def test_all_are_defined_there(self):
        for name, listed in LISTED.items():
            for below in [name] + list(listed):
                self.assertEqual(getattr(errors, below).__module__, "turnpowers.errors")

    def test_attributes_by_position_and_by_name(self):
        for listed in LISTED.values():
            for name, attributes in listed.items():
                for value in ANY:
                    values = [value, "other"][:len(attributes)]
                    self.check_made(getattr(errors, name)(*values), attributes, values)
                    self.check_made(getattr(errors, name)(**dict(zip(attributes, values))), attributes, values)

    def check_made(self, error, attributes, values):
        for attribute, value in zip(attributes, values):
            self.assertIs(getattr(error, attribute), value)
        with self.assertRaises(type(error).__bases__[0]):
            raise error

    def test_wrong_numbers_of_values(self):
        for listed in LISTED.values():
            for name, attributes in listed.items():
                if attributes:
                    with self.assertRaises(TypeError):
                        getattr(errors, name)()
                    with self.assertRaises(TypeError):
                        getattr(errors, name)(*attributes, 1)


if __name__ == "__main__":
    unittest.main()
