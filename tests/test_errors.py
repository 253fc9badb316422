import unittest

from comesback import errors

NAMES = (
    "NoSetting", "NoState", "NoFresh", "NoRow", "NoSteady", "NoMost", "NoTree", "NoPlan",
    "NoFails", "NoServices", "NoService", "NoCount", "NoGate", "NoText", "NothingDone",
)


class Errors(unittest.TestCase):
    def test_the_base_is_a_value_error(self):
        self.assertEqual(errors.ServeError.__bases__, (ValueError,))
        self.assertEqual(str(errors.ServeError("so")), "so")
        self.assertIsInstance(errors.ServeError(), ValueError)

    def test_each_is_derived_directly_from_the_base(self):
        for name in NAMES + ("TooMany",):
            with self.subTest(name):
                self.assertEqual(getattr(errors, name).__bases__, (errors.ServeError,))

    def test_each_stands_in_its_file_under_its_name(self):
        for name in NAMES + ("TooMany", "ServeError"):
            with self.subTest(name):
                kind = getattr(errors, name)
                self.assertEqual((kind.__module__, kind.__name__), ("comesback.errors", name))

    def test_each_is_made_with_a_message_or_none(self):
        for name in NAMES:
            with self.subTest(name):
                kind = getattr(errors, name)
                self.assertEqual(str(kind("why")), "why")
                with self.assertRaises(kind):
                    raise kind()

    def test_too_many_keeps_its_limit(self):
        self.assertEqual(errors.TooMany(2000).limit, 2000)
        self.assertEqual(errors.TooMany(limit=7).limit, 7)
        with self.assertRaises(errors.ServeError) as caught:
            raise errors.TooMany(3)
        self.assertEqual(caught.exception.limit, 3)
        self.assertIsInstance(str(caught.exception), str)

    def test_too_many_is_not_made_without_a_limit(self):
        with self.assertRaises(TypeError):
            errors.TooMany()


if __name__ == "__main__":
    unittest.main()
