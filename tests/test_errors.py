"""Promise 3 and the interface of errors."""

import inspect
import unittest

from pixelstages import errors

ABOVE = {
    "PixelError": ValueError, "Missing": KeyError, "NoWindow": IndexError, "NoPaper": LookupError,
    "NoDivisor": ZeroDivisionError,
}
UNDER_PIXEL_ERROR = (
    "NoPicture", "NoStage", "NoName", "NoShape", "NoPlace", "NoSource", "NoTone", "NoNumber", "NoRow", "Ring",
    "Used", "TooMany", "TooMuch", "TooWide", "Busy", "Closed", "NoText",
)
WITH_FIELDS = ("NoTone", "TooMuch", "NoText", "Missing")
ALL = (*ABOVE, *UNDER_PIXEL_ERROR)


def made(name):
    return getattr(errors, name)


class Classes(unittest.TestCase):
    def test_there_are_just_these(self):
        there = [name for name, thing in vars(errors).items() if inspect.isclass(thing)]
        self.assertEqual(sorted(there), sorted(ALL))

    def test_each_has_its_own_name(self):
        for name in ALL:
            self.assertEqual(made(name).__name__, name)

    def test_what_each_stands_straight_under(self):
        for name, above in ABOVE.items():
            self.assertEqual(made(name).__bases__, (above,), name)
        for name in UNDER_PIXEL_ERROR:
            self.assertEqual(made(name).__bases__, (errors.PixelError,), name)

    def test_none_stands_under_another_but_as_told(self):
        for name in ALL:
            for other in ALL:
                told = name == other or other == "PixelError" and name in UNDER_PIXEL_ERROR
                self.assertEqual(issubclass(made(name), made(other)), told, (name, other))

    def test_they_are_caught_by_pythons_own(self):
        for name in ALL:
            above = ABOVE.get(name, ValueError)
            with self.assertRaises(above):
                if name in WITH_FIELDS:
                    raise made(name)(*[1] * (2 if name == "TooMuch" else 1))
                raise made(name)


class Fields(unittest.TestCase):
    def test_those_without_fields_are_made_of_nothing_or_a_text(self):
        for name in ALL:
            if name not in WITH_FIELDS:
                self.assertIs(type(made(name)()), made(name))
                self.assertIn("why it is so", str(made(name)("why it is so")))

    def test_no_tone(self):
        self.assertIsNone(errors.NoTone().cell)
        self.assertIsNone(errors.NoTone(None).cell)
        self.assertEqual(errors.NoTone((3, -4)).cell, (3, -4))

    def test_too_much(self):
        error = errors.TooMuch(3, 5)
        self.assertEqual((error.reckoned, error.left), (3, 5))
        self.assertEqual(errors.TooMuch(0, 1).reckoned, 0)

    def test_no_text(self):
        self.assertEqual(errors.NoText(0).row, 0)
        self.assertEqual(errors.NoText(7).row, 7)

    def test_missing_has_whatever_it_is_made_of(self):
        for thing in ("ab", "", None, True, 5, ["ab"], {"a": 1}, (1, 2)):
            self.assertIs(errors.Missing(thing).name, thing)

    def test_fields_are_not_left_out(self):
        for name in ("TooMuch", "NoText", "Missing"):
            with self.assertRaises(TypeError):
                made(name)()


if __name__ == "__main__":
    unittest.main()
