"""What several test files check calls by."""

import time
import unittest

from leftfirst.errors import LeftFirstError
from tests.samples import unchanged

LONGEST = 2.0


class Calls(unittest.TestCase):
    def check(self, error, function, *arguments):
        """Check that exactly this error is raised, that nothing is modified, and that it does not take long."""
        with self.subTest(function.__name__, arguments=repr(arguments)[:80]):
            began = time.perf_counter()
            with self.assertRaises(LeftFirstError) as caught:
                unchanged(self, function, *arguments)
            self.assertIs(type(caught.exception), error)
            self.assertLess(time.perf_counter() - began, LONGEST)

    def check_orders(self, function, outcome, **arguments):
        """Check the outcome by position, and by name in every order of the arguments."""
        self.assertEqual(function(*arguments.values()), outcome)
        self.assertEqual(function(**arguments), outcome)
        self.assertEqual(function(**dict(reversed(list(arguments.items())))), outcome)
        for name in arguments:
            others = {other: arguments[other] for other in arguments if other != name}
            self.assertEqual(function(**{**others, name: arguments[name]}), outcome)

    def check_time(self, function, *arguments):
        """Check that the call does not take long and modifies nothing, and return what it returns."""
        began = time.perf_counter()
        outcome = function(*arguments)
        self.assertLess(time.perf_counter() - began, LONGEST, function.__name__)
        return outcome


def kinds(value):
    """The set of the kinds of values in a value that is made of tuples."""
    found = {type(value)}
    if isinstance(value, tuple):
        for part in value:
            found |= kinds(part)
    return found
