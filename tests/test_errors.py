"""0.4 and the classes of errors.py."""

import unittest

from fullpanes import errors

NAMES = [
    "BadTable", "BadMeasure", "NoSize", "NoMatch", "TooMany", "NoCount",
    "NoCell", "BadWorth", "NothingDone", "NoText", "NoRow", "NoSheet",
]


class Classes(unittest.TestCase):
    def test_pane_error_is_beneath_value_error(self):
        self.assertTrue(issubclass(errors.PaneError, ValueError))

    def test_each_is_straight_beneath_pane_error(self):
        for name in NAMES:
            with self.subTest(name):
                self.assertEqual(getattr(errors, name).__bases__, (errors.PaneError,))

    def test_none_is_beneath_another_one(self):
        classes = [getattr(errors, name) for name in NAMES]
        for one in classes:
            for other in classes:
                self.assertEqual(issubclass(one, other), one is other)

    def test_all_are_defined_in_this_file_by_their_names(self):
        for name in ["PaneError"] + NAMES:
            with self.subTest(name):
                self.assertEqual(getattr(errors, name).__module__, "fullpanes.errors")
                self.assertEqual(getattr(errors, name).__name__, name)

    def test_each_is_made_of_a_text(self):
        for name in ["PaneError"] + NAMES:
            for text in ("", "a text", "two\nlines\tand ~"):
                with self.subTest(name, text=text):
                    self.assertEqual(str(getattr(errors, name)(text)), text)

    def test_each_is_caught_as_a_pane_error_and_as_a_value_error(self):
        for name in NAMES:
            for caught in (errors.PaneError, ValueError):
                with self.subTest(name), self.assertRaises(caught):
                    raise getattr(errors, name)("a text")


if __name__ == "__main__":
    unittest.main()
