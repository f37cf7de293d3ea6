"""heirlines.errors"""

import unittest

from heirlines import errors

FIELDS = {
    "BadFamily": ("place",), "BadWay": ("way",), "BadCustom": ("word",), "BadMarks": ("number",),
    "BadRule": ("word",), "BadDeal": ("word",), "BadDeed": ("word",), "BadStory": ("place",),
    "BadWish": ("word",), "BadTerms": ("place",), "BadNumber": ("value",), "BadRoll": ("place",),
    "BadSentence": ("place",), "BadRow": ("place",), "BadCases": ("place",), "BadPaper": ("word",),
    "BadWords": ("line", "word"), "BadName": ("name",), "NothingBack": (), "TooGreat": ("most",),
}


class Errors(unittest.TestCase):

    def test_each_is_a_direct_subclass(self):
        self.assertEqual(errors.HeirError.__bases__, (ValueError,))
        for name in FIELDS:
            made = getattr(errors, name)
            self.assertEqual(made.__bases__, (errors.HeirError,), name)
            self.assertTrue(issubclass(made, ValueError))

    def test_none_is_a_subclass_of_another(self):
        for name in FIELDS:
            for other in FIELDS:
                if name != other:
                    self.assertFalse(issubclass(getattr(errors, name), getattr(errors, other)))

    def test_there_are_no_others(self):
        told = {name for name, value in vars(errors).items() if isinstance(value, type)}
        self.assertEqual(told, set(FIELDS) | {"HeirError"})

    def test_fields_are_the_very_things(self):
        for name, fields in FIELDS.items():
            things = [object() for _ in fields]
            error = getattr(errors, name)(*things)
            for field, thing in zip(fields, things):
                self.assertIs(getattr(error, field), thing)
            named = getattr(errors, name)(**dict(zip(fields, things)))
            for field, thing in zip(fields, things):
                self.assertIs(getattr(named, field), thing)

    def test_fields_may_be_anything(self):
        thing = [1, {"a": None}]
        self.assertIs(errors.BadNumber(thing).value, thing)
        self.assertIsNone(errors.BadFamily(None).place)
        self.assertEqual(errors.TooGreat(10 ** 60).most, 10 ** 60)

    def test_heir_error_is_made_of_any_things(self):
        for things in ((), (1,), ("a", None, [2])):
            self.assertIsInstance(errors.HeirError(*things), ValueError)

    def test_each_can_be_raised_and_caught(self):
        for name, fields in FIELDS.items():
            with self.assertRaises(errors.HeirError):
                raise getattr(errors, name)(*[None for _ in fields])


if __name__ == "__main__":
    unittest.main()
