"""Points 3 and the interface: the refusals, their classes and fields."""

import unittest

from beatnet import errors

PLAIN = ["NoNet", "NoParting", "NoNumber", "NoProgram", "NoBeats", "NoText"]
WITH_FIELD = [("NoHand", "hand"), ("Fallen", "hand"), ("NoLetter", "number"), ("TooLong", "most")]


class TestErrors(unittest.TestCase):
    def test_beat_error_stands_straight_under_value_error(self):
        self.assertEqual(errors.BeatError.__bases__, (ValueError,))

    def test_each_class_stands_straight_under_beat_error(self):
        for name in PLAIN + [name for name, field in WITH_FIELD]:
            kind = getattr(errors, name)
            self.assertEqual(kind.__bases__, (errors.BeatError,), name)
            self.assertEqual(kind.__name__, name)
            self.assertEqual(kind.__module__, "beatnet.errors")

    def test_classes_without_fields_are_made_of_nothing(self):
        for name in PLAIN:
            made = getattr(errors, name)()
            self.assertIsInstance(made, ValueError)
            self.assertEqual(vars(made), {})

    def test_classes_with_a_field_are_made_by_place_and_by_name(self):
        for name, field in WITH_FIELD:
            kind = getattr(errors, name)
            for value in (0, 7, -3, 10 ** 20, "x", None, (1, 2)):
                self.assertEqual(vars(kind(value)), {field: value})
                self.assertEqual(vars(kind(**{field: value})), {field: value})

    def test_a_refusal_can_be_told_of_anything(self):
        # A number too long for Python to write must not turn one refusal into another.
        for name, field in WITH_FIELD:
            made = getattr(errors, name)(10 ** 5000)
            self.assertTrue(str(made))
            self.assertEqual(getattr(made, field), 10 ** 5000)

    def test_all_are_caught_as_beat_error_and_value_error(self):
        for caught in (errors.BeatError, ValueError):
            for name in PLAIN:
                with self.assertRaises(caught):
                    raise getattr(errors, name)()
            for name, field in WITH_FIELD:
                with self.assertRaises(caught):
                    raise getattr(errors, name)(1)


if __name__ == "__main__":
    unittest.main()
