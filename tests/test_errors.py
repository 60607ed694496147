"""Point 13: the errors."""

import unittest

from pagesonce.errors import BadLine, BadSyntax, BadValue, PageError


class Errors(unittest.TestCase):
    def test_bases(self):
        self.assertEqual(PageError.__bases__, (Exception,))
        for error in (BadValue, BadLine, BadSyntax):
            self.assertEqual(error.__bases__, (PageError,))

    def test_place_is_kept(self):
        for error in (BadValue, BadLine, BadSyntax):
            self.assertEqual(error(3).at, 3)
            self.assertEqual(error(at=0).at, 0)

    def test_each_is_caught_as_page_error_alone(self):
        for error in (BadValue, BadLine, BadSyntax):
            with self.assertRaises(PageError) as caught:
                raise error(7)
            self.assertIs(type(caught.exception), error)
            self.assertEqual(caught.exception.at, 7)


if __name__ == "__main__":
    unittest.main()
