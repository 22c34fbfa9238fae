"""The refusals of the interface's section walksago/errors.py."""

import unittest

from walksago import errors

OF_TEXT = (errors.NoRest, errors.NoOrder, errors.NoAsk)
OF_ROW = (errors.NoWeb, errors.NoTable)
ALL = (*OF_TEXT, *OF_ROW, errors.NoName)


class ErrorsTest(unittest.TestCase):
    def test_any_refusal_is_a_value_error(self):
        self.assertTrue(issubclass(errors.LongError, ValueError))
        self.assertFalse(issubclass(errors.LongError, ALL))

    def test_each_stands_under_long_error_and_under_no_other(self):
        for kind in ALL:
            with self.subTest(kind=kind.__name__):
                self.assertTrue(issubclass(kind, errors.LongError))
                others = tuple(other for other in ALL if other != kind)
                self.assertFalse(issubclass(kind, others))

    def test_those_of_a_text_tell_it_by_str(self):
        for kind in OF_TEXT:
            for text in ("why it is so", "", "two\nrows"):
                with self.subTest(kind=kind.__name__, text=text):
                    self.assertEqual(str(kind(text)), text)

    def test_those_of_a_row_keep_it(self):
        for kind in OF_ROW:
            for row in (0, 1, 12):
                with self.subTest(kind=kind.__name__, row=row):
                    self.assertEqual(kind(row).row, row)

    def test_no_name_keeps_its_word(self):
        for word in ("up", "", "no name"):
            self.assertEqual(errors.NoName(word).word, word)

    def test_each_is_caught_as_any_refusal(self):
        for kind in ALL:
            with self.subTest(kind=kind.__name__):
                with self.assertRaises(errors.LongError):
                    raise kind("x")


if __name__ == "__main__":
    unittest.main()
