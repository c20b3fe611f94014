"""The interface under ditchturn/errors.py."""

import unittest

from ditchturn import errors

NAMES = [
    "BadPart", "BadName", "Taken", "Full", "NoField", "Same", "NoPart", "TooMuch",
    "NoHours", "NoHeirs", "NoWeight", "WrongTurn", "NothingLeft", "BadMany", "BadSheet",
    "NoDitch",
]


def made(name):
    """A refusal of the class of that name."""
    kind = getattr(errors, name)
    return kind(7) if name == "BadSheet" else kind("words")


class ErrorsTest(unittest.TestCase):
    def test_ditch_error_is_right_under_value_error(self):
        self.assertEqual(errors.DitchError.__bases__, (ValueError,))

    def test_there_are_sixteen_right_under_ditch_error(self):
        self.assertEqual(len(set(NAMES)), 16)
        for name in NAMES:
            with self.subTest(name=name):
                self.assertEqual(getattr(errors, name).__name__, name)
                self.assertEqual(getattr(errors, name).__bases__, (errors.DitchError,))

    def test_there_are_no_others(self):
        under = [kind.__name__ for kind in errors.DitchError.__subclasses__()]
        self.assertEqual(sorted(under), sorted(NAMES))

    def test_each_is_caught_as_itself_as_ditch_error_and_as_value_error(self):
        for name in NAMES:
            for kind in (getattr(errors, name), errors.DitchError, ValueError):
                with self.subTest(name=name, kind=kind):
                    with self.assertRaises(kind):
                        raise made(name)

    def test_none_is_caught_as_another(self):
        for name in NAMES:
            for other in NAMES:
                if other != name:
                    self.assertNotIsInstance(made(name), getattr(errors, other))

    def test_bad_sheet_has_its_row_when_it_is_created(self):
        for row in (0, 1, 400, 10 ** 50):
            self.assertEqual(errors.BadSheet(row).row, row)
            self.assertIs(type(errors.BadSheet(row).row), int)

    def test_each_bad_sheet_has_a_row_of_its_own(self):
        first, second = errors.BadSheet(3), errors.BadSheet(5)
        self.assertEqual((first.row, second.row), (3, 5))
        with self.assertRaises(errors.BadSheet) as caught:
            raise first
        self.assertEqual(caught.exception.row, 3)


if __name__ == "__main__":
    unittest.main()
