"""Stage 7: 7.1, 7.2, 7.3, with 0.2, 0.3, 0.5 and 0.6 as far as they speak of them."""

import copy
import random
import unittest
from itertools import combinations

from fullpanes.covers import are_sundered, cover_shows, cover_told
from fullpanes.errors import PaneError, TooMany
from tests import plain

VAST = plain.VAST
CROSS = ((0, 1, 0), (1, 1, 1), (0, 1, 0))
# Three cells, two boxes: the corner is in both.
ANGLE = ((1, 1), (1, 0))
NONE = ("cells", ())
# In these no sundered cells are found at once by the fewest holders, and boxes overlap a lot.
TANGLED = [
    ((0, 0, 0, 1, 1), (0, 1, 1, 1, 0), (1, 1, 1, 1, 0), (1, 1, 1, 0, 0), (1, 0, 0, 0, 0)),
    ((0, 0, 0, 0, 0, 1, 1), (0, 0, 0, 0, 0, 1, 1), (0, 0, 0, 0, 0, 1, 1), (0, 0, 0, 0, 0, 1, 1),
     (0, 0, 1, 1, 1, 1, 0), (1, 1, 1, 1, 1, 0, 0), (1, 1, 0, 0, 0, 0, 0), (1, 1, 0, 0, 0, 0, 0)),
    ((0, 0, 0, 0, 0, 1, 1, 1), (0, 0, 0, 0, 1, 1, 1, 0), (0, 1, 1, 1, 1, 0, 0, 0), (0, 1, 1, 1, 0, 0, 0, 0),
     (1, 1, 1, 1, 1, 1, 0, 0)),
    ((0, 0, 0, 0, 0, 0, 0), (0, 0, 0, 0, 1, 1, 0), (0, 0, 1, 1, 1, 1, 0), (0, 0, 1, 1, 1, 0, 0),
     (0, 1, 1, 1, 1, 0, 0), (0, 1, 1, 1, 0, 0, 0), (0, 1, 1, 0, 0, 0, 0), (0, 1, 1, 1, 0, 0, 0)),
]


def search_sundered(table, cells):
    return not any(len(plain.box_cells(box) & set(cells)) > 1 for box in plain.full_once(table))


def boxes_over(table, cell):
    return [box for box in plain.search_grown(table) if cell in plain.box_cells(box)]


def judge(table, tree, bare=None):
    """What 7.2 says of a thing, the bare cells as a set."""
    bare = frozenset(plain.yes_cells(table)) if bare is None else bare
    if isinstance(tree, tuple) and len(tree) == 2 and tree[0] == "cells" and isinstance(tree[1], tuple):
        cells = list(tree[1])
        rising = cells == sorted(set(cells))
        return len(cells) if set(cells) <= bare and rising and search_sundered(table, cells) else None
    if not isinstance(tree, tuple) or len(tree) != 3 or tree[0] != "cell" or tree[1] not in bare:
        return None
    boxes = boxes_over(table, tree[1])
    if len(boxes) != len(tree[2]):
        return None
    shown = [judge(table, inner, bare - plain.box_cells(box)) for box, inner in zip(boxes, tree[2])]
    return None if None in shown else min(shown) + 1


def drawn_sundered(table, bare, dice):
    taken = []
    for cell in dice.sample(sorted(bare), min(len(bare), dice.randrange(8))):
        if search_sundered(table, taken + [cell]):
            taken.append(cell)
    return tuple(sorted(taken))


def drawn_tree(table, dice, depth, bare=None):
    """A tree of drawn cells that ends somewhere, at the latest at a depth."""
    bare = frozenset(plain.yes_cells(table)) if bare is None else bare
    if not bare or depth == 0 or dice.randrange(5) == 0:
        return ("cells", drawn_sundered(table, bare, dice))
    cell = dice.choice(sorted(bare))
    trees = [drawn_tree(table, dice, depth - 1, bare - plain.box_cells(box)) for box in boxes_over(table, cell)]
    return ("cell", cell, trees)


def long_tree(table, last):
    """A tree that branches at the least bare cell as long as there is one, in each first tree alone."""
    def grow(bare):
        if not bare:
            return last
        cell = min(bare)
        boxes = boxes_over(table, cell)
        return ("cell", cell, [grow(bare - plain.box_cells(boxes[0]))] + [NONE] * (len(boxes) - 1))
    return grow(frozenset(plain.yes_cells(table)))


def depth_of(tree):
    return 1 + max(map(depth_of, tree[2])) if tree[0] == "cell" else 0


def places_in(tree):
    """The ways, as tuples of indexes, to each tree within a tree."""
    if tree[0] == "cells":
        return [()]
    return [()] + [(k, *way) for k, inner in enumerate(tree[2]) for way in places_in(inner)]


def tree_at(tree, way):
    return tree_at(tree[2][way[0]], way[1:]) if way else tree


def tree_with(tree, way, other):
    if not way:
        return other
    trees = list(tree[2])
    trees[way[0]] = tree_with(trees[way[0]], way[1:], other)
    return tree[:2] + (trees,)


def other_cells(table):
    rows, columns = len(table), len(table[0])
    cells = [(r, c) for r in range(-1, rows + 1) for c in range(-1, columns + 1)]
    return cells + [(VAST, 0), (0, VAST), (-VAST, 0), (0, -VAST), (VAST, VAST), (-rows, 0), (0, -columns)]


def others_for(table, tree):
    """What to put in place of a tree, one thing of it otherwise."""
    others = [("cell",), ("cells",), ("cells", (), ()), ("cell", (0, 0)), ("cells", (0, 0)), (), NONE]
    others += [(word,) + tree[1:] for word in ("cell", "cells", "Cells", "box", "", "cell ")]
    others += [tree[:k] for k in range(len(tree))] + [tree + ((),), tree + tree, tree[::-1]]
    if tree[0] == "cells":
        cells = tree[1]
        others += [("cells", cells[:k] + cells[k + 1:]) for k in range(len(cells))]
        others += [("cells", cells[:k + 1] + cells[k:]) for k in range(len(cells))]
        others += [("cells", cells[::-1])] + [("cells", cells[:k] + (cell,) + cells[k + 1:])
                                              for k in range(len(cells)) for cell in other_cells(table)]
        return others + [("cells", tuple(sorted(cells + (cell,)))) for cell in other_cells(table)]
    _, cell, trees = tree
    trees = list(trees)
    others += [("cell", other, trees) for other in other_cells(table)]
    for k in range(len(trees)):
        others += [("cell", cell, trees[:k] + trees[k + 1:]), ("cell", cell, trees[:k + 1] + trees[k:])]
        for j in range(k):
            exchanged = list(trees)
            exchanged[j], exchanged[k] = trees[k], trees[j]
            others.append(("cell", cell, exchanged))
    return others + [("cell", cell, []), ("cell", cell, trees + [NONE]), ("cell", cell, trees[::-1])]


def in_tuples(tree):
    """The same tree with tuples in place of lists."""
    return tree[:2] + (tuple(map(in_tuples, tree[2])),) if tree[0] == "cell" else tree


def fewest_cover(table):
    boxes = [plain.box_cells(box) for box in plain.search_grown(table)]
    yes = plain.yes_cells(table)
    for count in range(len(boxes) + 1):
        if any(frozenset().union(*some) == yes for some in combinations(boxes, count)):
            return count
    return None


class AreSundered(unittest.TestCase):
    def check(self, table, cells):
        sundered = search_sundered(table, cells)
        self.assertIs(are_sundered(table, cells), sundered, (table, cells))
        self.assertIs(are_sundered(table, tuple(cells)), sundered)
        self.assertIs(are_sundered(table, cells[::-1]), sundered)
        return sundered

    def test_by_hand(self):
        self.assertIs(self.check(ANGLE, [(0, 1), (1, 0)]), True)
        self.assertIs(self.check(ANGLE, [(0, 0), (1, 0)]), False)
        self.assertIs(self.check(CROSS, [(0, 1), (1, 0)]), True)
        self.assertIs(self.check(CROSS, [(0, 1), (2, 1)]), False)
        self.assertIs(self.check(CROSS, [(0, 1), (1, 0), (2, 1)]), False)
        self.assertIs(self.check(((1, 0, 1),), [(0, 0), (0, 2)]), True)
        self.assertIs(self.check(((1, 1), (1, 1)), [(0, 1), (1, 0)]), False)
        self.assertIs(self.check(((1, 1), (0, 1)), [(0, 0), (1, 1)]), True)

    def test_none_one_and_two_and_all(self):
        dice = random.Random(1)
        for table in plain.small_tables()[::5] + plain.mixed_tables():
            yes = sorted(plain.yes_cells(table))
            self.assertIs(self.check(table, []), True)
            for cell in yes:
                self.assertIs(self.check(table, [cell]), True)
            pairs = list(combinations(yes, 2))
            for pair in dice.sample(pairs, min(40, len(pairs))):
                self.check(table, list(pair))
            self.check(table, yes)

    def test_drawn_ones(self):
        dice = random.Random(2)
        verdicts = []
        for table in plain.mixed_tables() + plain.wide_tables():
            yes = sorted(plain.yes_cells(table))
            for _ in range(6):
                cells = dice.sample(yes, min(len(yes), dice.randrange(2, 6)))
                verdicts.append(self.check(table, cells))
                self.assertIs(self.check(table, list(drawn_sundered(table, yes, dice))), True)
        self.assertIn(True, verdicts)
        self.assertIn(False, verdicts)

    def test_all_yes_cells_of_wide_tables(self):
        for table in plain.wide_tables():
            yes = sorted(plain.yes_cells(table))
            self.assertIs(self.check(table, yes), all(len(plain.box_cells(box)) == 1 for box in plain.full_once(table)))
        for table in plain.checkers():
            self.assertIs(self.check(table, sorted(plain.yes_cells(table))), True)


class CoverShows(unittest.TestCase):
    def check(self, table, tree):
        shown = judge(table, tree)
        told = cover_shows(table, tree)
        self.assertEqual(told, shown, (table, tree))
        self.assertIn(type(told), (int, type(None)))
        return told

    def test_by_hand(self):
        self.assertEqual(self.check(CROSS, NONE), 0)
        self.assertEqual(self.check(CROSS, ("cells", ((0, 1), (1, 0)))), 2)
        self.assertEqual(self.check(CROSS, ("cells", ((1, 1),))), 1)
        upright, flat = ("cells", ((1, 0),)), ("cells", ((0, 1),))
        self.assertEqual(self.check(CROSS, ("cell", (1, 1), [upright, flat])), 2)
        self.assertEqual(self.check(CROSS, ("cell", (1, 1), (upright, flat))), 2)
        self.assertEqual(self.check(CROSS, ("cell", (1, 1), [NONE, flat])), 1)
        self.assertEqual(self.check(CROSS, ("cell", (0, 1), [upright])), 2)
        self.assertEqual(self.check(CROSS, ("cell", (0, 1), [("cell", (1, 0), [NONE])])), 2)
        self.assertEqual(self.check(((0,),), NONE), 0)

    def test_what_is_no_tree_by_hand(self):
        upright, flat = ("cells", ((1, 0),)), ("cells", ((0, 1),))
        wrong = [
            (), ("cells",), ("cell",), ("cells", (), ()), ("cell", (0, 1)), ("cell", (0, 1), [upright], []),
            ("cell", (1, 1), [flat, upright]), ("cell", (1, 1), [upright]), ("cell", (1, 1), [upright, flat, flat]),
            ("cell", (1, 1), []), ("cell", (0, 1), []), ("cell", (0, 0), []), ("cell", (0, 0), [NONE]),
            ("cell", (3, 1), []), ("cell", (3, 1), [NONE]), ("cell", (-2, 1), [NONE]), ("cell", (VAST, 1), []),
            ("cell", (0, 1), [flat]), ("cell", (0, 1), [("cells", ((1, 1),))]), ("cell", (0, 1), [("cell", (2, 1), [NONE])]),
            ("cells", ((1, 0), (0, 1))), ("cells", ((0, 1), (0, 1))), ("cells", ((0, 1), (2, 1))), ("cells", ((0, 0),)),
            ("cells", ((0, 1), (1, 0), (1, 1))), ("cells", ((3, 1),)), ("cells", ((-2, 1),)), ("cells", ((0, -2),)),
            ("cells", ((VAST, VAST),)), ("cells", ((-VAST, 1),)), ("Cells", ()), ("bare", ()), ("boxes", (1, 1), [upright, flat]),
            ("cell", (1, 1), [upright, ()]), ("cell", (1, 1), [upright, ("cells",)]), ("cell", (1, 1), [None, flat]),
            ("cells", ""), ("cells", 0), ("cells", "ab"), ("cells", (0, 1)), ("cells", ((False, True),)), ("cell", (0, 1), 1),
            ("cell", (0, 1), "a"), ("cell", (False, True), [upright]), ("cell", 0, [upright]), ("cell", (0, 1), None),
        ]
        for tree in wrong:
            self.assertIsNone(cover_shows(CROSS, tree), tree)
        self.assertIsNone(cover_shows(((0,),), ("cell", (0, 0), [])))
        self.assertIsNone(cover_shows(((0,),), ("cells", ((0, 0),))))

    def test_drawn_trees_and_these_with_one_thing_otherwise(self):
        dice = random.Random(3)
        verdicts = []
        for table in plain.small_tables()[::9] + plain.mixed_tables()[::2] + TANGLED:
            tree = drawn_tree(table, dice, 3)
            self.assertIsNotNone(self.check(table, tree))
            places = places_in(tree)
            for way in [()] + dice.sample(places, min(3, len(places))):
                others = others_for(table, tree_at(tree, way))
                for other in dice.sample(others, min(25, len(others))):
                    verdicts.append(self.check(table, tree_with(tree, way, other)) is None)
        self.assertIn(True, verdicts)
        self.assertIn(False, verdicts)

    def test_lists_and_tuples(self):
        dice = random.Random(4)
        for table in plain.mixed_tables()[::2] + TANGLED:
            tree = drawn_tree(table, dice, 3)
            self.assertEqual(cover_shows(table, in_tuples(tree)), self.check(table, tree))

    def test_of_wide_tables(self):
        dice = random.Random(5)
        for table in plain.wide_tables():
            self.check(table, drawn_tree(table, dice, 2))
            self.check(table, ("cells", drawn_sundered(table, plain.yes_cells(table), dice)))

    def test_fifty_branchings_within_one_another(self):
        for table in plain.checkers():
            tree = long_tree(table, NONE)
            self.assertEqual(depth_of(tree), 50)
            self.assertEqual(self.check(table, tree), 50)
            self.assertIsNone(self.check(table, long_tree(table, ("cells", ((0, 0),)))))
            self.assertIsNone(self.check(table, long_tree(table, ("cells",))))
        # Behind the last branching no cell is bare, so the least cell is none any more.
        table = plain.lone_noes(10, 10)
        deep = long_tree(table, NONE)
        self.assertGreater(depth_of(deep), 5)
        self.assertEqual(self.check(table, deep), 1)
        self.assertIsNone(self.check(table, long_tree(table, ("cells", ((0, 0),)))))

    def test_no_drawn_tree_shows_more_than_a_cover_has(self):
        dice = random.Random(6)
        for table in plain.small_tables()[::3] + TANGLED:
            fewest = fewest_cover(table)
            for _ in range(5):
                self.assertLessEqual(self.check(table, drawn_tree(table, dice, 4)), fewest)

    def test_what_is_handed_in_stays(self):
        dice = random.Random(7)
        for table in TANGLED:
            tree = drawn_tree(table, dice, 3)
            before = copy.deepcopy(tree)
            cover_shows(table, tree)
            self.assertEqual(tree, before)
            cells = sorted(plain.yes_cells(table))[::-1]
            before = list(cells)
            are_sundered(table, cells)
            self.assertEqual(cells, before)


class CoverTold(unittest.TestCase):
    def check_told(self, table):
        told = cover_told(table)
        boxes, tree = told
        self.assertEqual([type(part) for part in (told, boxes, tree)], [tuple, list, tuple])
        grown = plain.search_grown(table)
        self.assertTrue(set(boxes) <= set(grown))
        self.assertEqual(boxes, sorted(set(boxes)))
        self.assertEqual(frozenset().union(*map(plain.box_cells, boxes)), plain.yes_cells(table))
        self.assertEqual(judge(table, tree), len(boxes), (table, told))
        self.assertEqual(cover_shows(table, tree), len(boxes))
        return told

    def test_by_hand(self):
        boxes, _ = self.check_told(CROSS)
        self.assertEqual(boxes, [(0, 1, 3, 2), (1, 0, 2, 3)])
        self.assertEqual(self.check_told(((1, 1), (1, 1)))[0], [(0, 0, 2, 2)])
        # The box in the midst of the three is not needed.
        self.assertEqual(self.check_told(((1, 1, 0, 0), (0, 1, 1, 0), (0, 0, 1, 1)))[0],
                         [(0, 0, 1, 2), (1, 1, 2, 3), (2, 2, 3, 4)])
        self.assertEqual(len(self.check_told(((1, 1, 0), (1, 1, 1), (0, 1, 1)))[0]), 2)

    def test_without_yes(self):
        for rows, columns in ((1, 1), (1, 10), (10, 10)):
            boxes, tree = self.check_told(plain.filled_table(rows, columns, 0))
            self.assertEqual((boxes, cover_shows(plain.filled_table(rows, columns, 0), tree)), ([], 0))

    def test_of_all_yes(self):
        for rows, columns in ((1, 1), (1, 10), (10, 10)):
            self.assertEqual(self.check_told(plain.filled_table(rows, columns, 1))[0], [(0, 0, rows, columns)])

    def test_no_fewer_do_by_all_choices(self):
        tables = plain.small_tables() + TANGLED + plain.drawn_tables(4, 4, 1) + plain.drawn_tables(3, 5, 2)
        tables += [table for table in plain.mixed_tables() if len(plain.search_grown(table)) <= 12]
        for table in tables:
            self.assertEqual(len(self.check_told(table)[0]), fewest_cover(table), table)

    def test_trees_that_branch_are_told(self):
        self.assertTrue(any(cover_told(table)[1][0] == "cell" for table in TANGLED))

    def test_of_ten_rows_and_ten_columns(self):
        told = []
        tables = plain.wide_tables() + [plain.filled_table(10, 10, cell) for cell in (0, 1)]
        for seed in range(10):
            tables += plain.drawn_tables(10, 10, 200 + seed)
        for table in tables:
            if len(plain.search_grown(table)) <= 12:
                boxes, _ = self.check_told(table)
                told.append(len(boxes))
                self.assertEqual(len(boxes), fewest_cover(table))
        self.assertGreater(len(set(told)), 3)

    def test_too_many(self):
        for table in plain.sample_tables() + plain.wide_tables() + TANGLED:
            if len(plain.search_grown(table)) > 12:
                with self.assertRaises(PaneError) as caught:
                    cover_told(table)
                self.assertIs(type(caught.exception), TooMany)
            else:
                cover_told(table)

    def test_too_many_just_beyond_12(self):
        for columns in (9, 10):
            for count in range(9, 16):
                # So many yes cells, each alone, each one a box.
                spots = [(r, c) for r in range(0, 10, 2) for c in range(0, columns, 2)][:count]
                table = plain.made_by(10, columns, lambda r, c: (r, c) in spots)
                if count > 12:
                    self.assertRaises(TooMany, cover_told, table)
                else:
                    self.assertEqual(len(self.check_told(table)[0]), count)
        # Twelve and thirteen that overlap: a stair of cells, two side by side in each row and column.
        stair, shorter = [plain.made_by(7, columns, lambda r, c: c - r in (0, 1)) for columns in (8, 7)]
        self.assertEqual([len(plain.search_grown(table)) for table in (stair, shorter)], [13, 12])
        self.assertRaises(TooMany, cover_told, stair)
        self.assertEqual(len(self.check_told(shorter)[0]), 7)

    def test_turned_about_and_mirrored_as_many(self):
        for table in TANGLED + plain.small_tables()[::5]:
            count = len(cover_told(table)[0])
            for other in (plain.turned(table), plain.mirrored(table)):
                self.assertEqual(len(self.check_told(other)[0]), count)


if __name__ == "__main__":
    unittest.main()
