"""What several tests ask of values and errors."""

import unittest

from pagesonce.errors import BadLine, BadSyntax, BadValue

# None of these is a number of pages, a course, a moment or a promise.
ODD_VALUES = (None, True, False, -1, 10 ** 30, "", "ones", "Once", [], (), [[]], ((),), ["once"],
              ("least",), [None], "a\nb")


def as_lists(value):
    """The value with a list for each tuple, at every level."""
    if isinstance(value, tuple):
        return [as_lists(item) for item in value]
    return value


class Case(unittest.TestCase):
    def assertBadValue(self, at, call, *values):
        with self.assertRaises(BadValue, msg=repr(values)) as caught:
            call(*values)
        self.assertEqual(caught.exception.at, at, values)

    def assertBadLine(self, at, call, *values):
        with self.assertRaises(BadLine, msg=repr(values)) as caught:
            call(*values)
        self.assertEqual(caught.exception.at, at, values)

    def assertBadSyntax(self, at, call, *values):
        with self.assertRaises(BadSyntax, msg=repr(values)) as caught:
            call(*values)
        self.assertEqual(caught.exception.at, at, values)

    def assertSame(self, value, wanted):
        """Equal, and of the same classes at every level: True is not 1, a list no tuple."""
        self.assertIs(type(value), type(wanted))
        self.assertEqual(value, wanted)
        if isinstance(wanted, tuple):
            for item, other in zip(value, wanted):
                self.assertSame(item, other)
