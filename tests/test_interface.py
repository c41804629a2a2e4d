"""The interface: names, files, arguments by their places; 0.2 for all of it at once."""

import copy
import inspect
import unittest

from fullpanes import (
    apart, cases, corners, counts, covers, desk, errors, grown, measures, noes, papers, parting, pieces, sheet, tables, texts,
    worn,
)

TABLE = ((1, 1, 0), (1, 1, 1))
BOX = (0, 0, 2, 1)
AREA = ("area",)
TREE = ("no", (0, 2), (), ("small",), ("small",), ())
# A cross, around which there are points and chords, with a hole in a ring beside it.
WIDE = (
    (0, 1, 0, 1, 1, 1, 0, 0),
    (1, 1, 1, 1, 0, 1, 0, 1),
    (0, 1, 0, 1, 1, 1, 1, 0),
)
# A cross: chords that meet in two pairs, and a box that two trees of covers go over.
CROSS = ((0, 1, 0), (1, 1, 1), (0, 1, 0))
PAIRS = [((1, 1, 1, 2), (1, 1, 2, 1)), ((2, 1, 2, 2), (1, 2, 2, 2))]
PARTS = [(0, 1, 1, 2), (1, 0, 2, 3), (2, 1, 3, 2)]
COVER_TREE = ("cell", (1, 1), [("cells", ((1, 0),)), ("cell", (0, 1), [("cells", ())])])
# No cells alone show that its cover needs so many, as they are taken, so its tree branches.
TANGLED = ((0, 0, 0, 1, 1), (0, 1, 1, 1, 0), (1, 1, 1, 1, 0), (1, 1, 1, 0, 0), (1, 0, 0, 0, 0))

# Each function with arguments that it takes and the kind of value that it tells.
TABLES = [
    ("made_table", (TABLE,), tuple),
    ("is_box", (TABLE, BOX), bool),
    ("is_full", (TABLE, BOX), bool),
    ("cells_of", (BOX,), list),
    ("full_boxes", (TABLE,), list),
    ("turned_table", (TABLE,), tuple),
    ("mirrored_table", (TABLE,), tuple),
    ("opposite_table", (TABLE,), tuple),
    ("turned_box", (BOX,), tuple),
    ("mirrored_box", (TABLE, BOX), tuple),
]
GROWN = [
    ("grown_boxes", (TABLE,), list),
    ("sides_of", (TABLE, BOX), tuple),
    ("grown_by", (TABLE, BOX, [0, 1, 2, 3]), tuple),
    ("grown_over", (TABLE, BOX), list),
]
MEASURES = [
    ("value_of", (("weights", 1, 2), 3, 4), int),
    ("greatest_boxes", (TABLE, AREA), tuple),
    ("size_stair", (WIDE,), list),
]
PAPERS = [
    ("window_paper", (TABLE, 2, 3), list),
    ("window_right", (TABLE, 2, 3, [(0, 2)]), bool),
    ("greatest_paper", (WIDE, AREA), list),
    ("paper_right", (TABLE, AREA, 4, [(2, 3, [(0, 2)])]), bool),
]
CASES = [
    ("cases_tree", (WIDE, AREA), tuple),
    ("cases_shows", (TABLE, AREA, TREE), int),
]
COUNTS = [
    ("window_counts", (WIDE,), list),
    ("box_count", (TABLE,), int),
    ("holders", (WIDE,), list),
]
PIECES = [
    ("pieces_of", (WIDE,), list),
    ("holes_of", (WIDE,), list),
]
WORN = [
    ("worn_table", (TABLE, 1, 2), tuple),
    ("spread_table", (TABLE, 1, 2), tuple),
    ("smoothed_table", (TABLE, 1, 2), tuple),
    ("filled_table", (TABLE, 1, 2), tuple),
    ("lies_within", (TABLE, TABLE), bool),
]
CORNERS = [
    ("corners_of", (WIDE,), tuple),
    ("chords_of", (WIDE,), list),
    ("chords_meet", ((1, 1, 1, 2), (1, 1, 2, 1)), bool),
]
PARTING = [
    ("parting_told", (CROSS,), tuple),
    ("parting_bound", (CROSS, PAIRS), int),
    ("parting_right", (CROSS, (PARTS, PAIRS)), bool),
]
COVERS = [
    ("are_sundered", (CROSS, [(1, 0), (0, 1)]), bool),
    ("cover_shows", (CROSS, COVER_TREE), int),
    ("cover_told", (TANGLED,), tuple),
]
APART = [
    ("cut_tree", (PARTS[::-1],), tuple),
    ("best_apart", (CROSS, 3), tuple),
    ("line_bounds", (CROSS,), list),
]
NOES = [
    ("let_grown", (TABLE, 1), list),
    ("let_greatest", (TABLE, AREA, 1), tuple),
    ("let_paper", (TABLE, 2, 3, 0), list),
    ("let_right", (TABLE, 2, 3, 0, [((0, 2),)]), bool),
    ("least_noes", (TABLE,), list),
]
TEXTS = [
    ("table_text", (TABLE,), str),
    ("parting_text", (CROSS, PARTS[::-1]), str),
    ("read_table", ("#.\n##",), tuple),
    ("read_parting", ("ab\na.",), tuple),
]
FILES = [
    (tables, TABLES), (grown, GROWN), (measures, MEASURES), (papers, PAPERS), (cases, CASES), (counts, COUNTS),
    (pieces, PIECES), (worn, WORN), (corners, CORNERS), (parting, PARTING), (covers, COVERS), (apart, APART),
    (noes, NOES), (texts, TEXTS),
]
ALL = [(module, row) for module, rows in FILES for row in rows]


def lists_in(thing):
    """All lists in a thing that is told, itself among them where it is one."""
    if not isinstance(thing, (list, tuple)):
        return []
    own = [thing] if isinstance(thing, list) else []
    return own + [inner for part in thing for inner in lists_in(part)]


# Where a list may be told that has nothing in it.
EMPTY = [
    (measures.size_stair, (((0,),),)), (measures.greatest_boxes, (((0,),), AREA)), (papers.window_paper, (TABLE, 3, 4)),
    (papers.greatest_paper, (((1,),), AREA)), (pieces.pieces_of, (((0,),),)), (pieces.holes_of, (((0,),),)),
    (corners.corners_of, (((0,),),)), (corners.chords_of, (((0,),),)), (parting.parting_told, (((0,),),)),
    (parting.parting_told, (((1,),),)), (covers.cover_told, (((0,),),)), (apart.best_apart, (((0,),), 2)),
    (apart.line_bounds, (((1,),),)), (noes.let_grown, (((0,),), 0)), (noes.let_greatest, (((0,),), AREA, 0)),
    (noes.let_paper, (TABLE, 3, 4, 0)), (texts.read_parting, ("..",)),
]


# All that the interface lists, by its file: the functions above, and these classes with their methods.
CLASSES = [(sheet, "Sheet", ["put", "back", "table_now", "grown_now"]), (desk, "Desk", ["say"])]
REFUSALS = [
    "PaneError", "BadTable", "BadMeasure", "NoSize", "NoMatch", "TooMany", "NoCount", "NoCell", "BadWorth", "NothingDone",
    "NoText", "NoRow", "NoSheet",
]


class Interface(unittest.TestCase):
    def test_each_class_is_of_its_file_with_its_own_methods(self):
        for module, name, methods in CLASSES + [(errors, name, []) for name in REFUSALS]:
            with self.subTest(name):
                self.assertTrue(inspect.isclass(getattr(module, name)))
                self.assertEqual(getattr(module, name).__module__, module.__name__)
                for method in methods:
                    self.assertTrue(inspect.isfunction(vars(getattr(module, name))[method]))

    def test_each_is_a_function_of_its_file(self):
        for module, (name, _, _) in ALL:
            with self.subTest(name):
                self.assertTrue(inspect.isfunction(getattr(module, name)))
                self.assertEqual(getattr(module, name).__module__, module.__name__)

    def test_each_takes_its_arguments_by_place(self):
        for module, (name, args, kind) in ALL:
            with self.subTest(name):
                self.assertEqual(len(inspect.signature(getattr(module, name)).parameters), len(args))
                self.assertIs(type(getattr(module, name)(*args)), kind)

    def test_boxes_and_cells_that_are_told_are_tuples_of_numbers(self):
        lists = [tables.cells_of(BOX), tables.full_boxes(TABLE), grown.grown_boxes(TABLE), grown.grown_over(TABLE, BOX)]
        lists.append([tables.turned_box(BOX), tables.mirrored_box(TABLE, BOX), grown.grown_by(TABLE, BOX, (3, 2, 1, 0))])
        for told in lists:
            for thing in told:
                self.assertIs(type(thing), tuple)
                self.assertEqual([type(part) for part in thing], [int] * len(thing))

    def test_the_same_question_has_the_same_answer(self):
        for module, (name, args, _) in ALL:
            with self.subTest(name):
                self.assertEqual(getattr(module, name)(*args), getattr(module, name)(*args))

    def asked(self):
        """Each question with what is told to it, as a function and its arguments."""
        return [(getattr(module, name), args) for module, (name, args, _) in ALL] + EMPTY

    def test_lists_that_are_told_are_the_askers_own(self):
        for function, args in self.asked():
            with self.subTest(function.__name__, args=args):
                first = function(*args)
                kept = copy.deepcopy(first)
                for told in lists_in(first):
                    told.reverse()
                    told.append(None)
                self.assertEqual(function(*args), kept)

    def test_no_two_lists_that_are_told_are_one(self):
        for function, args in self.asked():
            with self.subTest(function.__name__, args=args):
                told = lists_in([function(*args), function(*args)])
                self.assertEqual(len({id(one) for one in told}), len(told))

    def test_lists_that_are_told_have_something_in_them_here(self):
        for module, (name, args, kind) in ALL:
            told = lists_in(getattr(module, name)(*args))
            self.assertTrue(kind is not list or any(told), name)

    def test_what_is_handed_in_is_not_changed(self):
        for module, (name, args, _) in ALL:
            with self.subTest(name):
                before = copy.deepcopy(args)
                getattr(module, name)(*args)
                self.assertEqual(args, before)


if __name__ == "__main__":
    unittest.main()
