import unittest

from rosenames import errors
from rosenames.errors import LostError, RoseError

ROSE_FIELDS = {
    "NoTurn": "thing",
    "NoName": "at",
    "NoStep": "thing",
    "NoRose": "part",
    "NoText": "row",
    "NoWind": "thing",
    "NoPair": None,
    "NoRoom": None,
    "NoWalk": "number",
    "NoRow": None,
}
LOST_FIELDS = {"NoWord": "word", "NoDeed": "word", "NoSuch": "word"}
FIELDS = {**ROSE_FIELDS, **LOST_FIELDS}


def made(name, thing):
    """A refusal of the class of this name, its field (if it has one) this thing."""
    if FIELDS[name] is None:
        return getattr(errors, name)()
    return getattr(errors, name)(thing)


class BasesTest(unittest.TestCase):
    def test_bases_stand_under_pythons_own(self):
        self.assertEqual(RoseError.__bases__, (ValueError,))
        self.assertEqual(LostError.__bases__, (LookupError,))

    def test_each_refusal_stands_right_under_its_base(self):
        for name in ROSE_FIELDS:
            self.assertEqual(getattr(errors, name).__bases__, (RoseError,), name)
        for name in LOST_FIELDS:
            self.assertEqual(getattr(errors, name).__bases__, (LostError,), name)

    def test_each_refusal_is_of_its_own_class_and_base_alone(self):
        for name in FIELDS:
            refusal = made(name, 3)
            for other in FIELDS:
                is_so = isinstance(refusal, getattr(errors, other))
                self.assertEqual(is_so, other == name, (name, other))
            self.assertEqual(isinstance(refusal, RoseError), name in ROSE_FIELDS, name)
            self.assertEqual(isinstance(refusal, ValueError), name in ROSE_FIELDS, name)
            self.assertEqual(isinstance(refusal, LostError), name in LOST_FIELDS, name)
            self.assertEqual(isinstance(refusal, LookupError), name in LOST_FIELDS, name)

    def test_no_refusal_is_one_of_pythons_narrower_ones(self):
        for name in FIELDS:
            self.assertNotIsInstance(made(name, 3), (KeyError, IndexError, UnicodeError), name)


class FieldsTest(unittest.TestCase):
    def test_field_is_the_very_thing(self):
        for name, field in FIELDS.items():
            if field is None:
                continue
            for thing in (0, None, "n", (1, 2), [], 10 ** 5000, object()):
                self.assertIs(getattr(made(name, thing), field), thing, name)

    def test_field_goes_by_keyword(self):
        for name, field in FIELDS.items():
            if field is not None:
                refusal = getattr(errors, name)(**{field: 3})
                self.assertEqual(getattr(refusal, field), 3, name)

    def test_refusals_can_be_shown_whatever_was_refused(self):
        for name in FIELDS:
            self.assertIsInstance(str(made(name, 10 ** 5000)), str, name)


if __name__ == "__main__":
    unittest.main()
