"""The interface of dykemoot.errors."""

import unittest

from dykemoot import errors

NAMES = [
    "NoLand", "NoWork", "NoText", "NoSluice", "NoWay", "NoRing", "NoDecree", "NoLevel",
    "NoWish", "TooMany", "NoPurse", "NoVoice", "Outvoted", "Short", "NoRow", "NoName",
]


class TestErrors(unittest.TestCase):
    def test_any_refusal_is_a_value_error(self):
        self.assertEqual(errors.DykeError.__bases__, (ValueError,))

    def test_sixteen_classes_stand_right_under_it(self):
        self.assertEqual(len(NAMES), 16)
        for name in NAMES:
            self.assertEqual(getattr(errors, name).__bases__, (errors.DykeError,), name)
            self.assertEqual(getattr(errors, name).__name__, name)

    def test_none_stands_under_another(self):
        classes = [getattr(errors, name) for name in NAMES]
        for one in classes:
            self.assertEqual([other for other in classes if issubclass(one, other)], [one])

    def test_each_is_made_of_a_text_and_taken_by_its_name(self):
        for name in NAMES:
            for base in (getattr(errors, name), errors.DykeError, ValueError):
                with self.assertRaises(base):
                    raise getattr(errors, name)("words")

    def test_any_refusal_is_made_of_a_text(self):
        self.assertEqual(str(errors.DykeError("words")), "words")
        self.assertEqual(str(errors.NoLand("words")), "words")

    def test_short_tells_its_field(self):
        self.assertEqual(errors.Short("marsh").field, "marsh")
        self.assertEqual(errors.Short(field="mill").field, "mill")


if __name__ == "__main__":
    unittest.main()
