"""The errors: their bases, their fields, and nothing besides."""

import unittest

from walledin import errors
from walledin.errors import WallError

PLAIN = ["BadLot", "BadOrder", "BadRoom", "BadWall", "BadNumber", "BadWalls", "BadTree", "BadSides", "NotTree",
         "NotText", "CannotSet", "NothingToUndo"]


class Errors(unittest.TestCase):
    def test_bases(self):
        self.assertEqual(WallError.__bases__, (ValueError,))
        for name in PLAIN + ["BadYard", "TooMany", "InvalidText"]:
            self.assertEqual(getattr(errors, name).__bases__, (WallError,), name)

    def test_plain_errors_take_no_arguments(self):
        for name in PLAIN:
            self.assertEqual(getattr(errors, name)().args, (), name)
            self.assertEqual(vars(getattr(errors, name)()), {}, name)

    def test_fields(self):
        self.assertEqual(vars(errors.BadYard(3)), {"index": 3})
        self.assertEqual(vars(errors.BadYard(index=None)), {"index": None})
        self.assertEqual(vars(errors.TooMany(most=12)), {"most": 12})
        self.assertEqual(vars(errors.InvalidText(place=4)), {"place": 4})
        for kind in (errors.BadYard, errors.TooMany, errors.InvalidText):
            with self.assertRaises(TypeError):
                kind()
            with self.assertRaises(TypeError):
                kind(1, 2)


if __name__ == "__main__":
    unittest.main()
