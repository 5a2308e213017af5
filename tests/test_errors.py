import unittest

from hearwood import errors

NAMES = ("NoBook", "NoTeller", "Alone", "First", "NoHearing", "NoFamily", "BadText")


class Errors(unittest.TestCase):
    def test_hear_error_is_a_value_error(self):
        self.assertEqual(errors.HearError.__bases__, (ValueError,))

    def test_each_is_straight_under_hear_error(self):
        for name in NAMES:
            with self.subTest(name):
                self.assertEqual(getattr(errors, name).__bases__, (errors.HearError,))

    def test_each_is_caught_as_hear_error_and_value_error(self):
        for name in NAMES:
            for base in (errors.HearError, ValueError):
                with self.subTest(name=name, base=base):
                    with self.assertRaises(base):
                        raise getattr(errors, name)("words")

    def test_none_is_another_one(self):
        for name in NAMES:
            for another in NAMES:
                if name != another:
                    with self.subTest(name=name, another=another):
                        refusal = getattr(errors, name)("words")
                        self.assertNotIsInstance(refusal, getattr(errors, another))


if __name__ == "__main__":
    unittest.main()
