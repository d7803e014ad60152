import copy
import unittest

from twoglass import errors
from twoglass.errors import Blind, GlassError, Stale, Torn

NAMES = ("NoForm", "NoTable", "NoField", "Twice", "NoKind", "Nothing", "NoKey", "TooMany",
         "Blind", "Torn", "Stale", "NoPane", "NoText")


class ErrorsTest(unittest.TestCase):
    def test_glass_error_is_straight_under_value_error(self):
        self.assertEqual(GlassError.__bases__, (ValueError,))

    def test_the_thirteen_are_straight_under_glass_error(self):
        self.assertEqual(len(NAMES), 13)
        for name in NAMES:
            with self.subTest(name):
                self.assertEqual(getattr(errors, name).__bases__, (GlassError,))

    def test_none_is_under_another(self):
        classes = [getattr(errors, name) for name in NAMES]
        for one in classes:
            for other in classes:
                self.assertEqual(issubclass(one, other), one is other)

    def test_plain_ones_are_raised_with_words(self):
        for name in NAMES:
            if name not in ("Blind", "Torn", "Stale"):
                with self.subTest(name), self.assertRaisesRegex(getattr(errors, name), "words"):
                    raise getattr(errors, name)("words")

    def test_fields_of_blind(self):
        one, other, change = ((1, 2),), ((1, 3),), (((1,), None, (1, 4)),)
        error = Blind(one, other, change)
        self.assertEqual((error.one, error.other, error.change), (one, other, change))

    def test_field_of_torn(self):
        self.assertEqual(Torn(((1, 2),)).view, ((1, 2),))

    def test_field_of_stale(self):
        self.assertEqual(Stale((1, "a")).key, (1, "a"))

    def test_each_object_has_its_own_fields(self):
        first, second = Stale((1,)), Stale((2,))
        self.assertEqual((first.key, second.key), ((1,), (2,)))

    def test_a_copy_has_the_fields_too(self):
        error = copy.copy(Blind(((1,),), ((2,),), ()))
        self.assertEqual((error.one, error.other, error.change), (((1,),), ((2,),), ()))


if __name__ == "__main__":
    unittest.main()
