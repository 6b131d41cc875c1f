"""A test case that asks for an error of one class."""

import unittest

from countahead.errors import MarkError


class FaultCase(unittest.TestCase):

    def assert_raises(self, kind, function, *arguments, **named):
        """It raises an error of this very class, and the arguments are as before."""
        held = [*arguments, *named.values()]
        before = [self.copied(value) for value in held]
        try:
            function(*arguments, **named)
        except Exception as error:
            caught = error
        else:
            self.fail(f"{function.__name__}{arguments!r} {named!r} raises nothing")
        self.assertIs(type(caught), kind, (function.__name__, arguments, named, caught))
        self.assertIsInstance(caught, MarkError)
        self.assertIsInstance(caught, ValueError)
        self.assertEqual(held, before)

    def copied(self, value):
        """The same in new lists, tuples, dicts and sets; an object of another kind is equal to itself only."""
        if isinstance(value, dict):
            return {key: self.copied(worth) for key, worth in value.items()}
        if type(value) in (tuple, list, set):
            return type(value)([self.copied(item) for item in value])
        return value
