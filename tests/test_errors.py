"""Point 3 and the section goalcolumn/errors.py."""

import inspect
import unittest

from goalcolumn import errors
from goalcolumn.errors import CursorError

NAMES = [
    "InvalidText", "InvalidCursor", "InvalidCommand", "Impossible",
    "InvalidNumber", "NothingToUndo", "Unreadable",
]
VALUES = [0, -1, 10 ** 30, None, "4X", "", (0, None), (-1, 3)]


class ErrorsTest(unittest.TestCase):

    def test_direct_bases(self):
        self.assertEqual(CursorError.__bases__, (ValueError,))
        for name in NAMES:
            with self.subTest(name=name):
                self.assertEqual(getattr(errors, name).__bases__, (CursorError,))

    def test_no_other_class_is_a_base(self):
        for name in NAMES:
            for other in NAMES:
                same = name == other
                self.assertEqual(issubclass(getattr(errors, name), getattr(errors, other)), same)

    def test_there_are_no_other_classes(self):
        found = [name for name, _ in inspect.getmembers(errors, inspect.isclass)]
        self.assertEqual(sorted(found), sorted(NAMES + ["CursorError"]))

    def test_each_class_is_defined_in_its_file(self):
        for name in NAMES + ["CursorError"]:
            self.assertEqual(getattr(errors, name).__module__, "goalcolumn.errors")

    def test_one_argument_by_position_and_by_name(self):
        for name in NAMES:
            for value in VALUES:
                with self.subTest(name=name, value=value):
                    kind = getattr(errors, name)
                    self.assertEqual(kind(value).value, value)
                    self.assertEqual(kind(value=value).value, value)

    def test_no_other_number_of_arguments(self):
        for name in NAMES:
            kind = getattr(errors, name)
            for arguments in [(), (1, 2)]:
                with self.subTest(name=name, arguments=arguments):
                    self.assertRaises(TypeError, kind, *arguments)
            self.assertRaises(TypeError, kind, index=1)

    def test_caught_by_the_bases(self):
        for name in NAMES:
            for base in (CursorError, ValueError):
                with self.assertRaises(base) as caught:
                    raise getattr(errors, name)(7)
                self.assertEqual(caught.exception.value, 7)


if __name__ == "__main__":
    unittest.main()
