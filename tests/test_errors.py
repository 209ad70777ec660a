"""The errors that the interface lists."""

import inspect
import unittest

from murmurline import errors

ATTRIBUTES = {
    "BadSize": ["size"],
    "BadTable": ["index"],
    "UnknownWord": ["word"],
    "SizeMismatch": ["first", "second"],
    "BadCount": ["count"],
    "BadPerson": ["part"],
    "BadLetter": ["letter"],
    "UnknownPerson": ["letter", "place"],
    "TooMany": ["limit"],
    "BadPattern": ["place"],
    "SameWord": ["word"],
    "UnknownClue": ["number"],
    "BadPlace": ["place"],
    "TooLong": ["limit"],
    "Melted": ["first", "second"],
    "NothingToUndo": [],
    "NothingToRedo": [],
    "Refused": ["index"],
    "BadLine": ["line"],
}
VALUES = {"letter": "q", "part": "says"}


def values_of(names):
    return [VALUES.get(name, 10 ** 39 + at) for at, name in enumerate(names)]


class Errors(unittest.TestCase):
    def test_the_base_class_is_a_value_error(self):
        self.assertEqual(errors.MurmurError.__bases__, (ValueError,))

    def test_the_module_has_these_classes_and_no_others(self):
        found = {name for name, _ in inspect.getmembers(errors, inspect.isclass)}
        self.assertEqual(found, set(ATTRIBUTES) | {"MurmurError"})

    def test_each_is_a_direct_subclass_defined_here(self):
        for name in ATTRIBUTES:
            with self.subTest(name=name):
                error = getattr(errors, name)
                self.assertEqual(error.__bases__, (errors.MurmurError,))
                self.assertEqual(error.__module__, "murmurline.errors")

    def test_attributes_are_set_from_the_arguments(self):
        for name, names in ATTRIBUTES.items():
            with self.subTest(name=name):
                values = values_of(names)
                error = getattr(errors, name)(*values)
                self.assertEqual(vars(error), dict(zip(names, values)))

    def test_arguments_have_the_names_of_the_attributes(self):
        for name, names in ATTRIBUTES.items():
            with self.subTest(name=name):
                told = dict(zip(names, values_of(names)))
                self.assertEqual(vars(getattr(errors, name)(**told)), told)

    def test_another_number_of_arguments_is_wrong(self):
        for name, names in ATTRIBUTES.items():
            with self.subTest(name=name):
                error = getattr(errors, name)
                with self.assertRaises(TypeError):
                    error(*values_of(names), 0)
                if names:
                    with self.assertRaises(TypeError):
                        error(*values_of(names)[1:])

    def test_each_has_a_message(self):
        for name, names in ATTRIBUTES.items():
            with self.subTest(name=name):
                self.assertTrue(str(getattr(errors, name)(*values_of(names))))


if __name__ == "__main__":
    unittest.main()
