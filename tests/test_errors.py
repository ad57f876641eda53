"""The interface of nochaingains.errors, and the package itself."""

import unittest

import nochaingains
from nochaingains import errors

NAMES = (
    "InvalidWeb", "NotSound", "BadText", "NoHouse", "NoContract", "NoLetter", "NothingToUndo", "NothingToRedo",
)


class ErrorsTest(unittest.TestCase):
    def test_base_is_a_value_error(self):
        self.assertEqual(errors.ContractError.__bases__, (ValueError,))

    def test_each_is_a_direct_subclass(self):
        for name in NAMES:
            with self.subTest(name):
                self.assertEqual(getattr(errors, name).__bases__, (errors.ContractError,))

    def test_raised_with_one_string(self):
        for name in NAMES:
            if name == "BadText":
                continue
            with self.subTest(name), self.assertRaises(errors.ContractError) as caught:
                raise getattr(errors, name)("why")
            self.assertEqual(str(caught.exception), "why")

    def test_bad_text_has_its_line(self):
        with self.assertRaises(ValueError) as caught:
            raise errors.BadText(17)
        self.assertEqual(caught.exception.line, 17)
        self.assertIn("__init__", vars(errors.BadText))

    def test_the_package_imports(self):
        self.assertTrue(nochaingains.__doc__)


if __name__ == "__main__":
    unittest.main()
