"""Point [2]: the errors."""

import unittest

from everytarget.errors import BadText, NotValid, TargetError


class Errors(unittest.TestCase):
    def test_the_base_is_directly_under_value_error(self):
        self.assertEqual(TargetError.__bases__, (ValueError,))

    def test_both_refusals_are_directly_under_the_base(self):
        self.assertEqual(NotValid.__bases__, (TargetError,))
        self.assertEqual(BadText.__bases__, (TargetError,))

    def test_errors_without_arguments(self):
        for kind in (TargetError, NotValid):
            with self.assertRaises(ValueError) as caught:
                raise kind()
            self.assertIs(type(caught.exception), kind)

    def test_bad_text_has_line_and_place(self):
        with self.assertRaises(TargetError) as caught:
            raise BadText(3, 14)
        self.assertEqual((caught.exception.line, caught.exception.place), (3, 14))
        self.assertEqual((BadText(0, 0).line, BadText(0, 0).place), (0, 0))

    def test_arguments_of_bad_text_by_name(self):
        error = BadText(place=2, line=1)
        self.assertEqual((error.line, error.place), (1, 2))

    def test_bad_text_takes_two_arguments(self):
        for told in ((), (1,), (1, 2, 3)):
            with self.assertRaises(TypeError):
                BadText(*told)


if __name__ == "__main__":
    unittest.main()
