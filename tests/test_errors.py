"""[22]: which error stands under which."""

import unittest

from streamstack import errors

NAMES = ("RowError", "QueryError", "LogError", "GroupError", "JobError", "SnapshotError")


class Errors(unittest.TestCase):
    def test_all_stand_under_stream_error_a_value_error(self):
        self.assertEqual(errors.StreamError.__bases__, (ValueError,))
        for name in NAMES:
            self.assertEqual(getattr(errors, name).__bases__, (errors.StreamError,), name)

    def test_none_stands_under_another_one(self):
        for name in NAMES:
            for other in NAMES:
                if name != other:
                    self.assertFalse(issubclass(getattr(errors, name), getattr(errors, other)), (name, other))

    def test_they_carry_what_they_are_told(self):
        for name in NAMES + ("StreamError",):
            with self.assertRaises(errors.StreamError) as caught:
                raise getattr(errors, name)("why")
            self.assertEqual(str(caught.exception), "why")


if __name__ == "__main__":
    unittest.main()
