"""Stage 3: 3.6, with 0.2, 0.3 and 0.6 as far as they speak of it."""

import random
import unittest

from fullpanes.cases import cases_shows, cases_tree
from tests import plain

VAST = plain.VAST
SMALL = ("small",)
AREA = ("area",)
TABLE = ((1, 0, 1), (1, 1, 0))
# A tree of it, by hand: the parts of the no (0, 1) are none, 2 by 1, 1 by 3 and 2 by 1.
TREE = ("no", (0, 1), (), SMALL, SMALL, SMALL)


def whole_cells(table):
    return frozenset((r, c) for r in range(len(table)) for c in range(len(table[0])))


def split(cells, no):
    """The cells above, left of, below and right of one."""
    return [
        frozenset(cell for cell in cells if cell[0] < no[0]),
        frozenset(cell for cell in cells if cell[1] < no[1]),
        frozenset(cell for cell in cells if cell[0] > no[0]),
        frozenset(cell for cell in cells if cell[1] > no[1]),
    ]


def noes_among(table, cells):
    return sorted((r, c) for r, c in cells if table[r][c] == 0)


def judge(table, measure, tree, cells=None):
    """What 3.6 says of a tree for a part that is known by its cells."""
    cells = whole_cells(table) if cells is None else cells
    if not cells:
        return 0 if tree == () else None
    if tree == SMALL:
        return plain.plain_value(measure, len({r for r, _ in cells}), len({c for _, c in cells}))
    if not isinstance(tree, tuple) or len(tree) != 6 or tree[0] != "no" or tree[1] not in noes_among(table, cells):
        return None
    shown = [judge(table, measure, inner, part) for inner, part in zip(tree[2:], split(cells, tree[1]))]
    return None if None in shown else max(shown)


def drawn_tree(table, dice, depth, cells=None):
    """A tree of drawn noes that is cut short somewhere, at the latest at a depth."""
    cells = whole_cells(table) if cells is None else cells
    noes = noes_among(table, cells)
    if not cells:
        return ()
    if not noes or depth == 0 or dice.randrange(6) == 0:
        return SMALL
    no = dice.choice(noes)
    return ("no", no, *(drawn_tree(table, dice, depth - 1, part) for part in split(cells, no)))


def places_in(tree):
    """The ways, as tuples of indexes, to each tree within a tree."""
    return [()] + [(k, *way) for k in range(2, len(tree)) for way in places_in(tree[k])]


def tree_at(tree, way):
    return tree_at(tree[way[0]], way[1:]) if way else tree


def tree_with(tree, way, other):
    if not way:
        return other
    return tree[:way[0]] + (tree_with(tree[way[0]], way[1:], other),) + tree[way[0] + 1:]


def others_for(table, tree):
    """What to put in place of a tree: of other forms, other words, with trees exchanged or left out."""
    others = [(), SMALL, "small", "no", "", 0, 1, VAST, ("no",), ("small", "small"), ((),), (SMALL,), ("",), (0,), ("()",)]
    if len(tree) != 6:
        return others + [("no", (0, 0), (), (), (), ()), ("no", (0, 0), SMALL, SMALL, SMALL, SMALL)]
    cells = [(r, c) for r in range(-1, len(table) + 1) for c in range(-1, len(table[0]) + 1)]
    cells += [(), (0,), (0, 0, 0), "no", 0, "00", ("0", "0"), (0, "1"), ("", 0), ((0,), 1), (VAST, 0), (0, -VAST)]
    cells += [(tree[1],), (*tree[1], 0), tree[1][::-1], (tree[1][0] - len(table), tree[1][1])]
    others += [tree[:1] + (cell,) + tree[2:] for cell in cells]
    others += [(word,) + tree[1:] for word in ("small", "No", "no ", "", "yes", 0, (), ("no",))]
    others += [tree[:k] + tree[k + 1:] for k in range(6)] + [tree + ((),), tree + (SMALL,), tree[::-1], (tree,)]
    for j in range(6):
        for k in range(j):
            exchanged = list(tree)
            exchanged[j], exchanged[k] = tree[k], tree[j]
            others.append(tuple(exchanged))
    return others


class CasesTree(unittest.TestCase):
    def check_told(self, table, measure):
        tree = cases_tree(table, measure)
        value, _ = plain.search_greatest(table, measure)
        self.assertIs(type(tree), tuple)
        self.assertEqual(judge(table, measure, tree), value, (table, measure))
        shown = cases_shows(table, measure, tree)
        self.assertEqual(shown, value)
        self.assertIs(type(shown), int)

    def test_shows_just_the_greatest_value(self):
        for table in plain.small_tables() + plain.mixed_tables():
            for measure in plain.MEASURES:
                self.check_told(table, measure)

    def test_of_ten_rows_and_ten_columns(self):
        checker = tuple(tuple((r + c) % 2 for c in range(10)) for r in range(10))
        crossed = tuple(tuple(0 if r in (c, 9 - c) else 1 for c in range(10)) for r in range(10))
        for table in plain.great_tables() + [checker, crossed]:
            for measure in plain.MEASURES:
                self.check_told(table, measure)

    def test_without_yes(self):
        for rows, columns in ((1, 1), (1, 10), (10, 1), (4, 5), (10, 10)):
            table = plain.filled_table(rows, columns, 0)
            for measure in plain.MEASURES:
                self.assertEqual(cases_shows(table, measure, cases_tree(table, measure)), 0)

    def test_of_all_yes_there_is_just_one(self):
        for rows, columns in ((1, 1), (1, 10), (4, 5), (10, 10)):
            for measure in plain.MEASURES:
                self.assertEqual(cases_tree(plain.filled_table(rows, columns, 1), measure), SMALL)

    def test_it_stays_small_enough_to_be_gone_over(self):
        for table in plain.great_tables():
            for measure in plain.MEASURES:
                self.assertLess(len(places_in(cases_tree(table, measure))), 4000)

    def test_of_a_lone_no(self):
        self.assertEqual(cases_tree(((0,),), AREA), ("no", (0, 0), (), (), (), ()))


class CasesShows(unittest.TestCase):
    def test_by_hand(self):
        self.assertEqual(cases_shows(TABLE, AREA, SMALL), 6)
        self.assertEqual(cases_shows(TABLE, ("sides",), SMALL), 5)
        self.assertEqual(cases_shows(TABLE, ("square",), SMALL), 2)
        self.assertEqual(cases_shows(TABLE, ("weights", 10, 1), SMALL), 23)
        self.assertEqual(cases_shows(TABLE, AREA, TREE), 3)
        self.assertEqual(cases_shows(TABLE, ("weights", 10, 1), TREE), 21)
        below = ("no", (1, 2), (), SMALL, (), ())
        self.assertEqual(cases_shows(TABLE, AREA, ("no", (0, 1), (), SMALL, below, SMALL)), 2)
        self.assertEqual(cases_shows(((0,),), AREA, ("no", (0, 0), (), (), (), ())), 0)
        self.assertEqual(cases_shows(((0, 0),), AREA, ("no", (0, 0), (), (), (), SMALL)), 1)

    def test_what_is_no_tree_by_hand(self):
        wrong = [
            (), ("Small",), ("small", 1), ("no",), ("no", (0, 1)), TREE[:5], TREE + ((),), TREE + (SMALL,), (TREE,),
            ("no", (0, 1), SMALL, SMALL, SMALL, SMALL), ("no", (0, 1), (), (), SMALL, SMALL),
            ("no", (0, 1), (), SMALL, (), SMALL), ("no", (0, 1), (), SMALL, SMALL, ()),
            ("no", (0, 0), (), (), SMALL, SMALL), ("no", (0, -2), (), SMALL, SMALL, SMALL),
            ("no", (-2, 1), (), SMALL, SMALL, SMALL), ("no", (2, 1), SMALL, SMALL, (), SMALL),
            ("no", (0, 3), (), SMALL, SMALL, ()), ("no", (VAST, 1), SMALL, SMALL, (), SMALL),
            ("no", "01", (), SMALL, SMALL, SMALL), ("no", ("0", "1"), (), SMALL, SMALL, SMALL),
            ("no", (0, 1, 0), (), SMALL, SMALL, SMALL), ("no", 1, (), SMALL, SMALL, SMALL),
            ("yes", (0, 1), (), SMALL, SMALL, SMALL), ("no", (0, 1), "", SMALL, SMALL, SMALL),
            ("no", (0, 1), 0, SMALL, SMALL, SMALL), ("no", (0, 1), (), "small", SMALL, SMALL),
            ("no", (0, 1), (), SMALL, 3, SMALL), ("no", (0, 1), (), SMALL, ("small", 3), SMALL),
        ]
        for tree in wrong:
            self.assertIsNone(cases_shows(TABLE, AREA, tree), tree)

    def test_a_tree_that_has_what_is_none_within_it(self):
        table = plain.filled_table(3, 3, 0)
        deep = ("no", (0, 0), (), (), ("no", (1, 1), (), SMALL, SMALL, SMALL), SMALL)
        self.assertEqual(cases_shows(table, AREA, deep), 6)
        # The part below the no (0, 0) has no row 0, so (0, 1) is beyond it.
        for inner in (("no", (0, 1), (), SMALL, SMALL, SMALL), ("no", (1, 1), SMALL, SMALL, SMALL, SMALL), (), "no"):
            self.assertIsNone(cases_shows(table, AREA, ("no", (0, 0), (), (), inner, SMALL)), inner)

    def test_things_made_of_tuples_texts_and_numbers(self):
        things = [
            ((((((),),),),),), ((), (), (), (), (), ()), ("no", ((((0,),),),), (), (), (), ()), ("no",) * 6,
            ("small",) * 200, tuple(range(200)), (SMALL,) * 200, ("no", (0, 1)) * 3, (0, 1), ("\n\t~", -VAST),
            (VAST,) * 6, ("no", (0, 1), (), SMALL, SMALL, ((((),),),)),
        ]
        for thing in things:
            for table in (TABLE, ((0,),), ((1,),), plain.filled_table(10, 10, 0)):
                self.assertIsNone(cases_shows(table, AREA, thing), thing)

    def test_drawn_trees_and_these_with_one_thing_otherwise(self):
        dice = random.Random(36)
        verdicts = []
        for table in plain.small_tables()[::9] + plain.mixed_tables():
            measure = dice.choice(plain.MEASURES)
            tree = drawn_tree(table, dice, 3)
            self.assertIsNotNone(judge(table, measure, tree))
            places = places_in(tree)
            ways = [()] + dice.sample(places, min(4, len(places)))
            spoilt = [tree_with(tree, way, other) for way in ways for other in others_for(table, tree_at(tree, way))]
            for one in [tree] + spoilt:
                told = cases_shows(table, measure, one)
                self.assertEqual(told, judge(table, measure, one), (table, measure, one))
                verdicts.append(told is None)
        self.assertIn(True, verdicts)
        self.assertIn(False, verdicts)

    def test_what_is_told_with_one_thing_otherwise(self):
        dice = random.Random(63)
        for table in plain.mixed_tables()[::4]:
            tree = cases_tree(table, AREA)
            for way in dice.sample(places_in(tree), min(3, len(places_in(tree)))):
                for other in others_for(table, tree_at(tree, way)):
                    one = tree_with(tree, way, other)
                    self.assertEqual(cases_shows(table, AREA, one), judge(table, AREA, one), (table, one))

    def test_a_tree_never_shows_less_than_the_greatest_value(self):
        dice = random.Random(3)
        for table in plain.small_tables() + plain.mixed_tables():
            for measure in plain.MEASURES:
                tree = drawn_tree(table, dice, 4)
                shown = cases_shows(table, measure, tree)
                self.assertEqual(shown, judge(table, measure, tree))
                self.assertGreaterEqual(shown, plain.search_greatest(table, measure)[0])


if __name__ == "__main__":
    unittest.main()
