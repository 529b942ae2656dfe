import unittest

from defaultswaps import errors

PLAIN = (
    "AtomsError", "BookError", "RuleError", "SetError", "SetsError", "TableError",
    "MatchError", "TextError", "AtomError", "NumberError", "NothingError",
)


class ErrorClasses(unittest.TestCase):
    def test_swap_error_is_a_value_error(self):
        self.assertEqual(errors.SwapError.__bases__, (ValueError,))

    def test_each_class_stands_directly_under_swap_error(self):
        for name in (*PLAIN, "LimitError"):
            with self.subTest(name):
                self.assertEqual(getattr(errors, name).__bases__, (errors.SwapError,))

    def test_no_class_is_under_another_one(self):
        classes = [getattr(errors, name) for name in (*PLAIN, "LimitError")]
        self.assertEqual(len(set(classes)), 12)
        for one in classes:
            for other in classes:
                self.assertEqual(issubclass(one, other), one is other)

    def test_each_class_is_defined_in_this_file_under_its_name(self):
        for name in ("SwapError", *PLAIN, "LimitError"):
            found = getattr(errors, name)
            self.assertEqual((found.__name__, found.__module__), (name, "defaultswaps.errors"))

    def test_with_a_message_and_without_one(self):
        for name in ("SwapError", *PLAIN):
            with self.subTest(name):
                made = getattr(errors, name)
                self.assertEqual(str(made("some words")), "some words")
                self.assertIsInstance(made(), errors.SwapError)
                with self.assertRaises(made):
                    raise made()

    def test_limit_error_has_its_two_values_as_fields(self):
        for amount, limit in ((3, 2), (101, 100), (4, 2)):
            error = errors.LimitError(amount, limit)
            self.assertEqual((error.amount, error.limit), (amount, limit))
            self.assertIsInstance(error, ValueError)
        with self.assertRaises(TypeError):
            errors.LimitError()


if __name__ == "__main__":
    unittest.main()
