"""The errors: their families, their fields, and that fields are kept as they are."""

import unittest

from stoodthen import errors
from tests.samples import ODD, Promises

FIELDS = {
    "InvalidPaper": ("PaperError", ("word", "at")),
    "NotUsable": ("CodeError", ("word", "at")),
    "TooMany": ("CodeError", ("most",)),
    "Torn": ("CodeError", ("view",)),
    "Unseen": ("CodeError", ("place",)),
    "InvalidEvent": ("LiveError", ("event", "reason")),
    "NothingToUndo": ("LiveError", ("steps",)),
    "InvalidText": ("TextError", ("line", "field")),
    "InvalidRow": ("TextError", ("row",)),
}


class Errors(Promises):

    def test_families(self):
        self.assertEqual(errors.StoodError.__bases__, (ValueError,))
        for family in ("PaperError", "CodeError", "LiveError", "TextError"):
            self.assertEqual(getattr(errors, family).__bases__, (errors.StoodError,))
        for name, (family, _) in FIELDS.items():
            self.assertEqual(getattr(errors, name).__bases__, (getattr(errors, family),))

    def test_all_are_defined_there(self):
        defined = {name for name, thing in vars(errors).items() if isinstance(thing, type)}
        families = {"StoodError", "PaperError", "CodeError", "LiveError", "TextError"}
        self.assertEqual(defined, set(FIELDS) | families)

    def test_fields_are_the_very_objects(self):
        for name, (_, fields) in FIELDS.items():
            error = getattr(errors, name)
            for thing in (*ODD, object()):
                values = [[thing] for _ in fields]
                by_place = error(*values)
                by_name = error(**dict(zip(fields, values)))
                for made in (by_place, by_name):
                    self.assertEqual(sorted(vars(made)), sorted(fields))
                    for field, value in zip(fields, values):
                        self.assertIs(getattr(made, field), value)

    def test_just_these_fields(self):
        for name, (_, fields) in FIELDS.items():
            error = getattr(errors, name)
            self.assertRaises(TypeError, error, *[0 for _ in fields[1:]])
            self.assertRaises(TypeError, error, *[0 for _ in fields], 0)

    def test_they_can_be_raised_and_caught_by_family(self):
        for name, (family, fields) in FIELDS.items():
            for base in (ValueError, errors.StoodError, getattr(errors, family)):
                with self.assertRaises(base):
                    raise getattr(errors, name)(*[0 for _ in fields])


if __name__ == "__main__":
    unittest.main()
