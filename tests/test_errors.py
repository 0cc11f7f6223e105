import unittest

from stairseek import errors

NAMES = ("NoTable", "NoCell", "NoNumber", "NoSize", "NoStair", "NoLook", "NoPlace", "NoFit", "NoChange", "NoText",
         "NoName", "NoRow")


class ErrorsTest(unittest.TestCase):
    def test_any_refusal_is_a_value_error(self):
        self.assertEqual(errors.SeekError.__bases__, (ValueError,))

    def test_each_stands_right_under_seek_error(self):
        for name in NAMES:
            with self.subTest(name=name):
                kind = getattr(errors, name)
                self.assertEqual(kind.__name__, name)
                self.assertEqual(kind.__bases__, (errors.SeekError,))

    def test_none_stands_under_another(self):
        for name in NAMES:
            for other in NAMES:
                if name != other:
                    with self.subTest(name=name, other=other):
                        self.assertFalse(issubclass(getattr(errors, name), getattr(errors, other)))

    def test_each_is_caught_as_seek_error_and_as_value_error(self):
        for name in NAMES:
            for above in (errors.SeekError, ValueError):
                with self.subTest(name=name, above=above):
                    with self.assertRaises(above):
                        raise getattr(errors, name)("words")


if __name__ == "__main__":
    unittest.main()
