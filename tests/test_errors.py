"""The interface's errors: what stands under what."""

import unittest

from stretchleast import errors

NAMES = ("NoStretch", "NoPlace", "NoNumber", "NoMany", "NoText", "NoCommand")


class Errors(unittest.TestCase):
    def test_span_error_stands_under_value_error(self):
        self.assertTrue(issubclass(errors.SpanError, ValueError))

    def test_each_stands_under_span_error(self):
        for name in NAMES:
            with self.subTest(name):
                refusal = getattr(errors, name)
                self.assertEqual(refusal.__name__, name)
                self.assertTrue(issubclass(refusal, errors.SpanError))
                self.assertIsNot(refusal, errors.SpanError)

    def test_none_stands_under_another(self):
        for name in NAMES:
            for other in NAMES:
                if name != other:
                    with self.subTest(name, other=other):
                        self.assertFalse(issubclass(getattr(errors, name), getattr(errors, other)))

    def test_each_is_raised_and_caught_as_such(self):
        for name in NAMES:
            for caught in (getattr(errors, name), errors.SpanError, ValueError):
                with self.subTest(name, caught=caught.__name__):
                    with self.assertRaises(caught):
                        raise getattr(errors, name)("why")
