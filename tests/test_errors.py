"""The refusals: their families, fields and words."""

import unittest

from roamlook import errors

FIELDS = {
    "BadMany": "many", "BadWay": "at", "BadOrder": None, "BadPace": None, "BadLot": None,
    "BadLook": None, "BadAnswer": None, "BadStory": "at", "BadBeat": "beat", "BadCount": "count",
    "BadHands": "at", "BadWish": "most", "BadTalk": "at", "BadLost": None, "BadWorld": None,
    "BadSaying": None, "TooMany": "most", "BadText": "at", "BadName": "name", "Taken": "name",
    "Full": None, "Unfit": "at", "Wrong": "number", "Right": "number", "Late": None,
    "BadDeed": None, "Broken": "at",
}
MISSING_FIELDS = {
    "NoPlace": "place", "NoNumber": "number", "NoHand": "hand", "NoThing": "name",
    "NoLook": "number", "NoWish": "name",
}


def made(name, field):
    error = getattr(errors, name)
    return error("told") if field else error()


class Families(unittest.TestCase):
    def test_roam_errors_stand_straight_under_their_family(self):
        self.assertEqual(errors.RoamError.__bases__, (ValueError,))
        for name in FIELDS:
            self.assertEqual(getattr(errors, name).__bases__, (errors.RoamError,), name)

    def test_missing_ones_stand_straight_under_their_family(self):
        self.assertEqual(errors.Missing.__bases__, (LookupError,))
        for name in MISSING_FIELDS:
            self.assertEqual(getattr(errors, name).__bases__, (errors.Missing,), name)

    def test_nothing_left_stands_alone(self):
        self.assertEqual(errors.NothingLeft.__bases__, (IndexError,))

    def test_none_stands_under_another(self):
        names = list(FIELDS) + list(MISSING_FIELDS) + ["NothingLeft"]
        for one in names:
            for other in names:
                under = issubclass(getattr(errors, one), getattr(errors, other))
                self.assertEqual(under, one == other, (one, other))

    def test_there_are_no_others(self):
        found = {name for name, thing in vars(errors).items() if isinstance(thing, type)}
        named = set(FIELDS) | set(MISSING_FIELDS) | {"RoamError", "Missing", "NothingLeft"}
        self.assertEqual(found, named)


class Fields(unittest.TestCase):
    def test_each_has_its_field(self):
        for name, field in {**FIELDS, **MISSING_FIELDS}.items():
            told = {field: "told", "word": name} if field else {"word": name}
            self.assertEqual(vars(made(name, field)), told)

    def test_each_has_its_word(self):
        for name in ("RoamError", "Missing", "NothingLeft"):
            self.assertEqual(getattr(errors, name)().word, name)
        for name, field in {**FIELDS, **MISSING_FIELDS}.items():
            self.assertEqual(made(name, field).word, name)

    def test_each_can_be_raised_and_caught_by_its_family(self):
        for name, field in FIELDS.items():
            with self.assertRaises(ValueError):
                raise made(name, field)
        for name, field in MISSING_FIELDS.items():
            with self.assertRaises(LookupError):
                raise made(name, field)
        with self.assertRaises(IndexError):
            raise errors.NothingLeft()


if __name__ == "__main__":
    unittest.main()
