"""How results are compared: a bool for an integer, or a list for a tuple, is not the same."""

import unittest

from pourdrains.errors import HillError


class Case(unittest.TestCase):
    def same(self, got, wanted, about=None):
        self.assertEqual(repr(got), repr(wanted), about)

    def fails(self, error, attributes, function, *args, **more):
        """The call raises just this error, with these very values as its attributes."""
        with self.assertRaises(HillError) as caught:
            function(*args, **more)
        self.assertIs(type(caught.exception), error)
        self.assertEqual(list(vars(caught.exception)), list(attributes))
        for name, value in attributes.items():
            if isinstance(value, int):
                self.same(getattr(caught.exception, name), value)
            else:
                self.assertIs(getattr(caught.exception, name), value)
