"""[2] The refusals."""

import unittest

from tellfew import errors

WITH_TEXT = ("NoText", "TooGreat", "NoName", "Taken", "NoFit", "NoBack", "NoRow")


class Refusals(unittest.TestCase):

    def test_tell_error_is_under_value_error(self):
        self.assertTrue(issubclass(errors.TellError, ValueError))
        self.assertEqual(str(errors.TellError("so")), "so")

    def test_each_is_made_with_a_text(self):
        for name in WITH_TEXT:
            refusal = getattr(errors, name)("why so")
            self.assertIsInstance(refusal, errors.TellError)
            self.assertEqual(str(refusal), "why so")

    def test_wrong_has_its_fields(self):
        refusal = errors.Wrong(3, 11)
        self.assertIsInstance(refusal, errors.TellError)
        self.assertEqual((refusal.row, refusal.column), (3, 11))
        self.assertIsInstance(str(refusal), str)

    def test_each_is_caught_as_tell_error_and_value_error(self):
        for above in (errors.TellError, ValueError):
            with self.assertRaises(above):
                raise errors.NoText("why")
            with self.assertRaises(above):
                raise errors.Wrong(0, 0)

    def test_none_stands_under_another_but_tell_error(self):
        classes = [getattr(errors, name) for name in WITH_TEXT] + [errors.Wrong]
        for one in classes:
            self.assertFalse(issubclass(errors.TellError, one))
            for other in classes:
                self.assertEqual(issubclass(one, other), one is other)

    def test_all_are_defined_in_errors(self):
        for name in WITH_TEXT + ("TellError", "Wrong"):
            self.assertEqual(getattr(errors, name).__module__, "tellfew.errors")
            self.assertEqual(getattr(errors, name).__name__, name)


if __name__ == "__main__":
    unittest.main()
