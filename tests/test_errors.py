"""The refusals: points 6, 9, 22, 32 and the interface under fourbind/errors.py."""

import unittest

from fourbind.errors import BindError, NoBegun, NoKept, NoPlan, NoProgram, NoRow, NoText

# Each refusal with the fields that it is made with, in their order.
REFUSALS = (
    (NoText, ("row",)),
    (NoProgram, ("word", "at", "name")),
    (NoPlan, ("word", "at")),
    (NoRow, ()),
    (NoKept, ("name",)),
    (NoBegun, ()),
)

# Any texts and numbers: also empty ones, negative ones, and those that no rule of names lets by.
STUFF = ("", "unknown", "Not a name\n", "{braces}", 0, 7, -1, 10 ** 9, 10 ** 5000)


def makings_of(fields):
    """Tuples to make a refusal with: each thing of STUFF stands in each of its fields."""
    return [tuple(STUFF[(at + shift) % len(STUFF)] for shift in range(len(fields))) for at in range(len(STUFF))]


class Fields(unittest.TestCase):
    def test_kept_as_handed_in(self):
        for refusal, fields in REFUSALS:
            for things in makings_of(fields):
                made = refusal(*things)
                for field, thing in zip(fields, things):
                    self.assertIs(getattr(made, field), thing)

    def test_each_object_has_its_own(self):
        first, second = NoProgram("unknown", 3, "x"), NoProgram("twice", 4, "y")
        self.assertEqual((first.word, first.at, first.name), ("unknown", 3, "x"))
        self.assertEqual((second.word, second.at, second.name), ("twice", 4, "y"))

    def test_made_with_just_these(self):
        for refusal, fields in REFUSALS:
            if fields:
                with self.assertRaises(TypeError):
                    refusal()
                with self.assertRaises(TypeError):
                    refusal(*fields, "more")

    def test_message_can_be_told(self):
        for refusal, fields in REFUSALS:
            self.assertIsInstance(str(refusal(*fields)), str)


class Kinship(unittest.TestCase):
    def test_right_under_bind_error(self):
        self.assertEqual(BindError.__bases__, (ValueError,))
        for refusal, _ in REFUSALS:
            self.assertEqual(refusal.__bases__, (BindError,))

    def test_none_is_another(self):
        for refusal, fields in REFUSALS:
            made = refusal(*fields)
            self.assertIsInstance(made, BindError)
            self.assertIsInstance(made, ValueError)
            others = [other for other, _ in REFUSALS if other != refusal]
            self.assertEqual(len(others), 5)
            for other in others:
                self.assertNotIsInstance(made, other)


class Taken(unittest.TestCase):
    def test_by_own_class_and_by_bind_error(self):
        for refusal, fields in REFUSALS:
            for kind in (refusal, BindError, ValueError):
                with self.assertRaises(kind) as caught:
                    raise refusal(*fields)
                for field in fields:
                    self.assertEqual(getattr(caught.exception, field), field)

    def test_not_by_another(self):
        for refusal, fields in REFUSALS:
            others = tuple(other for other, _ in REFUSALS if other != refusal)
            try:
                raise refusal(*fields)
            except others:
                self.fail(f"{refusal} was taken for another")
            except BindError as error:
                self.assertEqual(error.__class__, refusal)


if __name__ == "__main__":
    unittest.main()
