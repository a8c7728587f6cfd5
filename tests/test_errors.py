import unittest

from fewpoints import errors
from fewpoints.errors import SpaceError
from tests.helpers import REFUSALS


class Errors(unittest.TestCase):
    def test_space_error_stands_under_value_error_alone(self):
        self.assertEqual(SpaceError.__bases__, (ValueError,))

    def test_each_refusal_stands_under_space_error_alone(self):
        for refusal in REFUSALS:
            self.assertEqual(refusal.__bases__, (SpaceError,), refusal)

    def test_names(self):
        for name in ("SpaceError", "TooMany", "NoPoint", "Round", "NoFold", "NotRead"):
            self.assertEqual(getattr(errors, name).__name__, name)

    def test_each_is_caught_as_itself_and_its_bases_and_as_no_other(self):
        for refusal in REFUSALS:
            for caught in (refusal, SpaceError, ValueError):
                with self.assertRaises(caught):
                    raise refusal("some words")
            for other in REFUSALS:
                if other is not refusal:
                    self.assertNotIsInstance(refusal("some words"), other)


if __name__ == "__main__":
    unittest.main()
