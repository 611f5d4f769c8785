"""The refusals: fifteen classes under FrontError, none under another one."""

import unittest

from frontways import errors

NAMES = """TooMany BadTie Twice NoOrder NoSet BadKnots NoKnot BadRule NoNumber NoWeights Unlike NoTie NoText
NoRow NoName""".split()


class Refusals(unittest.TestCase):
    def test_all_are_beneath_front_error(self):
        self.assertEqual(15, len(NAMES))
        for name in NAMES:
            with self.subTest(name=name):
                kind = getattr(errors, name)
                self.assertEqual(name, kind.__name__)
                self.assertTrue(issubclass(kind, errors.FrontError))
                self.assertIsNot(kind, errors.FrontError)

    def test_front_error_is_a_value_error(self):
        self.assertTrue(issubclass(errors.FrontError, ValueError))
        self.assertIsNot(errors.FrontError, ValueError)

    def test_none_is_beneath_another(self):
        for name in NAMES:
            for other in NAMES:
                if name != other:
                    with self.subTest(name=name, other=other):
                        self.assertFalse(issubclass(getattr(errors, name), getattr(errors, other)))


if __name__ == "__main__":
    unittest.main()
