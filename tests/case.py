import unittest

from defaultswaps.errors import LimitError


class Case(unittest.TestCase):
    def assert_error(self, error, function, *arguments):
        """The error is of this very class, not of one above or below it."""
        with self.assertRaises(error) as caught:
            function(*arguments)
        self.assertIs(type(caught.exception), error)

    def assert_limit(self, amount, function, *arguments):
        """More rules than a rulebook has: so many different ones that there would be."""
        with self.assertRaises(LimitError) as caught:
            function(*arguments)
        self.assertIs(type(caught.exception), LimitError)
        self.assertEqual((caught.exception.amount, caught.exception.limit), (amount, 100))

    def assert_interface(self, module, expected):
        for name, arguments in expected.items():
            function = getattr(module, name)
            names = function.__code__.co_varnames[:function.__code__.co_argcount]
            self.assertEqual(list(names), arguments)
            self.assertEqual(function.__module__, module.__name__)
