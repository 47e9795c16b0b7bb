"""The error classes of the interface, with their fields."""

import unittest

from shiftcore import errors

PLAIN = ["BadWord", "BadLength", "NotWhole", "BadLetters", "BadPolynomial", "BadMatrix", "BadState", "BadSplit",
         "NotAlive", "NotFinite", "NotResolving", "BadMachine", "BadRule", "BadWeights", "BadPattern", "BadNumber",
         "BadTurns", "NotRising", "NotLinear", "BadTable", "BadName", "NoName", "NothingToUndo", "BadWanted",
         "BadChain", "BadParts", "BadCode", "NotText"]
FIELDS = {"BadWeb": "index", "BadBars": "index", "BadRoads": "index", "InvalidText": "place", "TooMany": "most"}


class Errors(unittest.TestCase):
    def test_base_class(self):
        self.assertIs(errors.ShiftError.__bases__[0], ValueError)
        self.assertEqual(len(errors.ShiftError.__bases__), 1)

    def test_plain_classes(self):
        for name in PLAIN:
            found = getattr(errors, name)
            self.assertEqual(found.__bases__, (errors.ShiftError,), name)
            self.assertEqual(found.__module__, "shiftcore.errors")
            self.assertEqual(vars(found("why")), {}, name)

    def test_classes_with_a_field(self):
        for name, field in FIELDS.items():
            found = getattr(errors, name)
            self.assertEqual(found.__bases__, (errors.ShiftError,), name)
            self.assertEqual(vars(found(7)), {field: 7}, name)

    def test_no_other_class(self):
        listed = {name for name, value in vars(errors).items() if isinstance(value, type)}
        self.assertEqual(listed, {"ShiftError", *PLAIN, *FIELDS})


if __name__ == "__main__":
    unittest.main()
