import unittest

from letinside import errors
from tests.samples import junk

FIELDS = {
    "Wrong": ["place"], "NoRule": ["key"], "Twice": ["name"], "Strange": ["name"], "NoDoor": ["door"], "NoDeed": [],
    "NoGuest": ["name"], "NotHeld": ["name"], "NotDone": ["index"], "Never": ["wish"], "NoCall": ["index"],
    "Unlike": [], "NotFirst": ["pair"], "NoText": ["line"], "NoEdit": [], "Idle": [], "Opened": ["ban", "play"],
    "Nothing": [], "Stopped": ["index"], "NoCommand": [],
}


class ErrorsTest(unittest.TestCase):
    def test_house_error_is_one_of_value_error(self):
        self.assertEqual(errors.HouseError.__bases__, (ValueError,))

    def test_there_are_just_the_twenty(self):
        own = [name for name, thing in vars(errors).items() if isinstance(thing, type)]
        self.assertEqual(len(FIELDS), 20)
        self.assertEqual(sorted(own), sorted([*FIELDS, "HouseError"]))

    def test_each_is_a_direct_subclass_and_none_is_one_of_another(self):
        for name in FIELDS:
            self.assertEqual(getattr(errors, name).__bases__, (errors.HouseError,), name)

    def test_fields_keep_the_very_objects(self):
        for name, fields in FIELDS.items():
            for thing in junk():
                given = [thing, ["other"]][:len(fields)]
                error = getattr(errors, name)(*given)
                for field, value in zip(fields, given):
                    self.assertIs(getattr(error, field), value, name)

    def test_fields_have_the_names_of_the_signature(self):
        for name, fields in FIELDS.items():
            given = {field: [field] for field in fields}
            error = getattr(errors, name)(**given)
            self.assertEqual(vars(error), given, name)
            for field in fields:
                self.assertIs(getattr(error, field), given[field])

    def test_fields_are_the_same_objects_even_if_they_are_changed(self):
        ban, play = [], {}
        error = errors.Opened(ban, play)
        ban.append(1)
        play["a"] = 2
        self.assertEqual((error.ban, error.play), ([1], {"a": 2}))

    def test_can_be_raised_and_caught(self):
        for name, fields in FIELDS.items():
            with self.assertRaises(errors.HouseError):
                raise getattr(errors, name)(*[None] * len(fields))
