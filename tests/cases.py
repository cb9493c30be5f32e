"""What many tests ask of errors."""

import unittest

from handsweeps.errors import SweepError
from handsweeps.loads import Load


class Case(unittest.TestCase):

    def check_error(self, act, error, **fields):
        """Act, and look at the error that it raises, and at its fields.

        Integers and loads have to be equal, all other fields the very objects.
        """
        with self.assertRaises(SweepError) as caught:
            act()
        self.assertIs(type(caught.exception), error)
        self.assertEqual(sorted(vars(caught.exception)), sorted(fields))
        for name, expected in fields.items():
            found = getattr(caught.exception, name)
            if type(expected) in (int, Load):
                self.assertIs(type(found), type(expected))
                self.assertEqual(found, expected)
            else:
                self.assertIs(found, expected)
