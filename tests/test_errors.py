"""Point 0.4: the error classes."""

import unittest

from copyrates import errors
from tests.kit import ATTRIBUTES, Checks


class Errors(Checks):
    def test_base_class(self):
        self.assertEqual(errors.RatesError.__bases__, (ValueError,))

    def test_direct_subclasses(self):
        for name in list(ATTRIBUTES) + ["NoDeed"]:
            self.assertEqual(getattr(errors, name).__bases__, (errors.RatesError,), name)

    def test_one_attribute(self):
        for name, attribute in ATTRIBUTES.items():
            for value in ("size", None, (0, 2), -1, [1]):
                error = getattr(errors, name)(value)
                self.assertEqual(vars(error), {attribute: value})
                self.assertEqual(getattr(error, attribute), value)

    def test_one_argument(self):
        for name in ATTRIBUTES:
            with self.assertRaises(TypeError):
                getattr(errors, name)()
            with self.assertRaises(TypeError):
                getattr(errors, name)(1, 2)

    def test_no_deed_has_none(self):
        self.assertEqual(vars(errors.NoDeed()), {})

    def test_defined_here(self):
        for name in list(ATTRIBUTES) + ["NoDeed", "RatesError"]:
            self.assertEqual(getattr(errors, name).__module__, "copyrates.errors")


if __name__ == "__main__":
    unittest.main()
