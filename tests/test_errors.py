"""The errors: their families and their fields."""

import unittest

from stillhad import errors

FAMILIES = {
    "PaperError": {"InvalidPaper": ("word", "at")},
    "BookError": {"NotUsable": ("word", "at"), "Stuck": ("lap", "turn", "step"), "TooMuch": ("most",),
                  "Barred": ("row",), "OutOfReach": ("row",)},
    "HouseError": {"NoTwin": ("amounts", "weights"), "Shared": ("wire",), "Ringed": ("seat",)},
    "LiveError": {"InvalidEvent": ("event", "reason"), "NothingToUndo": ("steps",)},
    "TextError": {"InvalidText": ("line", "field"), "InvalidRow": ("row",)},
}


class ErrorsTest(unittest.TestCase):
    def test_families(self):
        self.assertEqual(errors.HadError.__bases__, (ValueError,))
        for family in FAMILIES:
            self.assertEqual(getattr(errors, family).__bases__, (errors.HadError,))

    def test_errors(self):
        for family, names in FAMILIES.items():
            for name, fields in names.items():
                kind = getattr(errors, name)
                self.assertEqual(kind.__bases__, (getattr(errors, family),))
                for other in FAMILIES:
                    self.assertEqual(issubclass(kind, getattr(errors, other)), other == family)
                values = [[object()] for _ in fields]
                for error in (kind(*values), kind(**dict(zip(fields, values)))):
                    self.assertEqual(tuple(vars(error)), fields)
                    for field, value in zip(fields, values):
                        self.assertIs(getattr(error, field), value)
                    with self.assertRaises(kind):
                        raise error
                with self.assertRaises(TypeError):
                    kind(*values, None)
                with self.assertRaises(TypeError):
                    kind(*values[1:])


if __name__ == "__main__":
    unittest.main()
