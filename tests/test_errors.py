"""Points 4 and 38: the errors."""

import unittest

from manyvoices import errors
from tests.examples import any_objects

FIELDS = {
    "BadWord": "word",
    "BadForm": "thing",
    "NoTerms": None,
    "BadConstant": "number",
    "BadCondition": "index",
    "BadPlaces": "words",
    "BadBegins": "words",
    "BadRule": "index",
    "BadPromise": "index",
    "BadFaults": "word",
    "NoRule": "name",
    "BadRun": "thing",
    "BadGoal": "index",
    "BadMany": "many",
    "BadWish": "index",
    "BadIndex": "index",
    "BadBox": "box",
    "UnlikePlaces": None,
    "BadGroup": None,
    "BadBegun": "thing",
    "NotStopping": None,
    "NoPlace": "place",
    "NotThere": "place",
    "NotHeard": "index",
    "TooMany": "many",
    "NoSort": "word",
    "NameInUse": "name",
    "NoName": "name",
    "BadDeed": "index",
    "BadText": "line",
    "NoText": "word",
}


class Errors(unittest.TestCase):
    def test_the_base(self):
        self.assertEqual(errors.VoiceError.__bases__, (ValueError,))
        self.assertEqual(vars(errors.VoiceError()), {})

    def test_all_that_the_interface_lists_stand_directly_under_the_base(self):
        for name in FIELDS:
            with self.subTest(name):
                self.assertEqual(getattr(errors, name).__bases__, (errors.VoiceError,))
                self.assertEqual(getattr(errors, name).__module__, "manyvoices.errors")

    def test_no_other_classes(self):
        classes = {name for name, value in vars(errors).items() if isinstance(value, type)}
        self.assertEqual(classes, {"VoiceError", *FIELDS})

    def test_made_by_position_and_by_name_with_any_object(self):
        for name, field in FIELDS.items():
            made = getattr(errors, name)
            if field is None:
                self.assertEqual(vars(made()), {})
                continue
            for thing in any_objects():
                with self.subTest(name, thing=thing):
                    error = made(thing)
                    self.assertEqual(list(vars(error)), [field])
                    self.assertIs(getattr(error, field), thing)
                    self.assertIs(getattr(made(**{field: thing}), field), thing)

    def test_the_text_does_not_depend_on_identity(self):
        for name, field in FIELDS.items():
            if field is not None:
                made = getattr(errors, name)
                self.assertEqual(len({str(made(thing)) for thing in any_objects()}), 1)
                self.assertNotIn("0x", str(made(any_objects()[-1])))
