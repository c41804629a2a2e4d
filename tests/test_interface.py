"""The interface: names, files, arguments by their places; 0.2 for all of it at once."""

import copy
import inspect
import unittest

from fullpanes import grown, tables

TABLE = ((1, 1, 0), (1, 1, 1))
BOX = (0, 0, 2, 1)

# Each function with arguments that it takes and the kind of value that it tells.
TABLES = [
    ("made_table", (TABLE,), tuple),
    ("is_box", (TABLE, BOX), bool),
    ("is_full", (TABLE, BOX), bool),
    ("cells_of", (BOX,), list),
    ("full_boxes", (TABLE,), list),
    ("turned_table", (TABLE,), tuple),
    ("mirrored_table", (TABLE,), tuple),
    ("opposite_table", (TABLE,), tuple),
    ("turned_box", (BOX,), tuple),
    ("mirrored_box", (TABLE, BOX), tuple),
]
GROWN = [
    ("grown_boxes", (TABLE,), list),
    ("sides_of", (TABLE, BOX), tuple),
    ("grown_by", (TABLE, BOX, [0, 1, 2, 3]), tuple),
    ("grown_over", (TABLE, BOX), list),
]
ALL = [(tables, row) for row in TABLES] + [(grown, row) for row in GROWN]


class Interface(unittest.TestCase):
    def test_each_is_a_function_of_its_file(self):
        for module, (name, _, _) in ALL:
            with self.subTest(name):
                self.assertTrue(inspect.isfunction(getattr(module, name)))
                self.assertEqual(getattr(module, name).__module__, module.__name__)

    def test_each_takes_its_arguments_by_place(self):
        for module, (name, args, kind) in ALL:
            with self.subTest(name):
                self.assertEqual(len(inspect.signature(getattr(module, name)).parameters), len(args))
                self.assertIs(type(getattr(module, name)(*args)), kind)

    def test_boxes_and_cells_that_are_told_are_tuples_of_numbers(self):
        lists = [tables.cells_of(BOX), tables.full_boxes(TABLE), grown.grown_boxes(TABLE), grown.grown_over(TABLE, BOX)]
        lists.append([tables.turned_box(BOX), tables.mirrored_box(TABLE, BOX), grown.grown_by(TABLE, BOX, (3, 2, 1, 0))])
        for told in lists:
            for thing in told:
                self.assertIs(type(thing), tuple)
                self.assertEqual([type(part) for part in thing], [int] * len(thing))

    def test_the_same_question_has_the_same_answer(self):
        for module, (name, args, _) in ALL:
            with self.subTest(name):
                self.assertEqual(getattr(module, name)(*args), getattr(module, name)(*args))

    def test_a_list_that_is_told_is_the_askers_own(self):
        for module, (name, args, kind) in ALL:
            if kind is list:
                with self.subTest(name):
                    first = getattr(module, name)(*args)
                    kept = list(first)
                    first.reverse()
                    first.append(None)
                    second = getattr(module, name)(*args)
                    self.assertEqual(second, kept)
                    self.assertIsNot(second, first)

    def test_what_is_handed_in_is_not_changed(self):
        for module, (name, args, _) in ALL:
            with self.subTest(name):
                before = copy.deepcopy(args)
                getattr(module, name)(*args)
                self.assertEqual(args, before)


if __name__ == "__main__":
    unittest.main()
