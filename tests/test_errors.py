"""[2]: the refusals and their fields."""

import unittest

from tanglehouse import errors

FIELDS = {"Odd": "arc", "NoText": "at", "NotFlat": "holes", "TooWide": "crossing", "BadPace": "at", "NoName": "name"}
WORDY = ("NoWeb", "TooMany", "NoStep", "NoTurning", "NoMatch", "NoRow")
NAMES = tuple(FIELDS) + WORDY


class Errors(unittest.TestCase):
    def test_each_is_a_tangle_error_and_a_value_error(self):
        self.assertTrue(issubclass(errors.TangleError, ValueError))
        for name in NAMES:
            self.assertTrue(issubclass(getattr(errors, name), errors.TangleError), name)

    def test_none_stands_under_another_one(self):
        for name in NAMES:
            for other in NAMES:
                if name != other:
                    self.assertFalse(issubclass(getattr(errors, name), getattr(errors, other)), (name, other))

    def test_tangle_error_stands_under_none_of_them(self):
        for name in NAMES:
            self.assertFalse(issubclass(errors.TangleError, getattr(errors, name)), name)

    def test_the_field_is_set_when_it_is_made(self):
        for name, field in FIELDS.items():
            given = "trefoil" if name == "NoName" else 7
            self.assertEqual(vars(getattr(errors, name)(given)), {field: given}, name)
            self.assertEqual(vars(getattr(errors, name)(**{field: given})), {field: given}, name)

    def test_the_others_are_made_with_one_text(self):
        for name in WORDY + ("TangleError",):
            self.assertEqual(str(getattr(errors, name)("some words")), "some words", name)

    def test_a_refusal_of_a_huge_arc_can_be_shown(self):
        self.assertIsInstance(str(errors.Odd(10 ** 5000)), str)
        self.assertIsInstance(repr(errors.Odd(10 ** 5000)), str)


if __name__ == "__main__":
    unittest.main()
