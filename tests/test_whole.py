"""0.1 to 0.6 over the whole program: what its functions tell of one table goes together."""

import random
import unittest

from fullpanes.apart import best_apart, cut_tree, line_bounds
from fullpanes.cases import cases_shows, cases_tree
from fullpanes.corners import chords_of, corners_of
from fullpanes.counts import box_count, holders, window_counts
from fullpanes.covers import are_sundered, cover_shows, cover_told
from fullpanes.desk import Desk
from fullpanes.errors import (
    BadMeasure, BadTable, BadWorth, NoCell, NoCount, NoMatch, NoRow, NoSheet, NoSize, NoText, NothingDone, PaneError, TooMany,
)
from fullpanes.grown import grown_boxes, grown_over
from fullpanes.measures import greatest_boxes, size_stair, value_of
from fullpanes.noes import least_noes, let_greatest, let_grown, let_paper, let_right
from fullpanes.papers import greatest_paper, paper_right, window_paper, window_right
from fullpanes.parting import parting_bound, parting_right, parting_told
from fullpanes.pieces import holes_of, pieces_of
from fullpanes.sheet import Sheet
from fullpanes.tables import (
    cells_of, full_boxes, is_full, made_table, mirrored_box, mirrored_table, opposite_table, turned_box, turned_table,
)
from fullpanes.texts import parting_text, read_parting, read_table, table_text
from fullpanes.worn import filled_table, lies_within, smoothed_table, spread_table, worn_table
from tests import plain

MEASURES = [("area",), ("sides",), ("square",), ("weights", 3, 1)]


def tables():
    return plain.small_tables()[::4] + plain.mixed_tables()[::2] + plain.wide_tables()


def area(box):
    return (box[2] - box[0]) * (box[3] - box[1])


def with_one_cell_changed(table, dice):
    r, c = dice.randrange(len(table)), dice.randrange(len(table[0]))
    return r, c, plain.changed(table, r, c, 1 - table[r][c])


def columns_of(rows):
    return [list(column) for column in zip(*rows)]


def cover_count(table):
    """How many boxes the told cover has, None where there are too many to tell."""
    try:
        return len(cover_told(table)[0])
    except TooMany:
        return None


class OneTable(unittest.TestCase):
    def test_the_greatest_boxes_the_stair_papers_and_trees(self):
        for table in tables():
            stair = size_stair(table)
            for measure in MEASURES:
                value, boxes = greatest_boxes(table, measure)
                values = [value_of(measure, height, width) for height, width, _ in stair]
                self.assertEqual(value, max(values, default=0))
                self.assertIs(paper_right(table, measure, value, greatest_paper(table, measure)), True)
                self.assertEqual(cases_shows(table, measure, cases_tree(table, measure)), value)
                self.assertEqual(let_greatest(table, measure, 0), (value, boxes))
                self.assertTrue(set(boxes) <= set(grown_boxes(table)))
                if boxes:
                    self.assertIs(paper_right(table, measure, value - 1, greatest_paper(table, measure)), False)

    def test_the_stair_and_the_boxes_that_can_t_grow(self):
        for table in tables():
            sizes = [plain.height_and_width(box) for box in grown_boxes(table)]
            for height, width, box in size_stair(table):
                self.assertIn((height, width), sizes)
                self.assertIn(box, grown_over(table, box))

    def test_counts_papers_worn_tables_and_let_boxes_of_each_size(self):
        for table in tables():
            counts, least = window_counts(table), least_noes(table)
            self.assertEqual(sum(map(sum, counts)), box_count(table))
            self.assertEqual(box_count(table), len(full_boxes(table)))
            self.assertEqual(sum(map(sum, holders(table))), sum(map(area, full_boxes(table))))
            for height, width in plain.sizes_in(table)[::3]:
                count = counts[height - 1][width - 1]
                self.assertEqual(sum(map(sum, worn_table(table, height, width))), count)
                paper = window_paper(table, height, width)
                self.assertEqual(paper is None, count > 0)
                self.assertEqual(least[height - 1][width - 1] == 0, count > 0)
                let = let_paper(table, height, width, 0)
                self.assertEqual(let, None if paper is None else [(cell,) for cell in paper])
                if paper is not None:
                    self.assertIs(window_right(table, height, width, paper), True)
                    self.assertIs(let_right(table, height, width, 0, let), True)

    def test_smoothed_and_filled_tables(self):
        for table in plain.mixed_tables()[::4]:
            for height, width in plain.sizes_in(table)[:6]:
                smoothed = smoothed_table(table, height, width)
                self.assertIs(lies_within(smoothed, table), True)
                self.assertEqual(smoothed == table, all(
                    any(plain.lies_in((r, c, r + 1, c + 1), box) and plain.is_beyond(plain.height_and_width(box), (height, width))
                        for box in grown_boxes(table)) for r, c in plain.yes_cells(table)))
                if len(table) + height <= 11 and len(table[0]) + width <= 11:
                    self.assertIs(lies_within(table, filled_table(table, height, width)), True)

    def test_counts_pieces_and_holes_go_together(self):
        for table in tables():
            counts = window_counts(table)

            def count(a, b):
                return counts[a - 1][b - 1] if a <= len(counts) and b <= len(counts[0]) else 0

            for a, b in plain.sizes_in(table)[::4]:
                worn = worn_table(table, a, b)
                told = count(a, b) - count(a, b + 1) - count(a + 1, b) + count(a + 1, b + 1)
                self.assertEqual(told, len(pieces_of(worn)) - len(holes_of(worn)))

    def test_corners_pieces_and_holes_go_together(self):
        for table in tables():
            out, crossed, turned_in = corners_of(table)
            pieces, holes = len(pieces_of(table)), len(holes_of(table))
            self.assertEqual(len(out) + 2 * len(crossed) - len(turned_in), 4 * (pieces - holes))
            self.assertEqual(parting_bound(table, []), pieces - holes + len(turned_in) - len(chords_of(table)))

    def test_partings_covers_and_boxes_apart(self):
        for table in tables():
            boxes, pairs = parting_told(table)
            self.assertIs(parting_right(table, (boxes, pairs)), True)
            self.assertGreaterEqual(len(boxes), len(pieces_of(table)))
            count = cover_count(table)
            if count is not None:
                self.assertLessEqual(count, len(boxes))
                self.assertLessEqual(cover_shows(table, cover_told(table)[1]), len(boxes))
            yes = len(plain.yes_cells(table))
            for k in (1, 2, 3):
                self.assertEqual(best_apart(table, k)[0] == yes, len(boxes) <= k)
            if len(boxes) <= 3:
                self.assertIsNotNone(cut_tree(boxes))

    def test_sundered_cells_and_covers(self):
        for table in tables():
            count = cover_count(table)
            cells = [cells[0] for cells in pieces_of(table)]
            self.assertIs(are_sundered(table, cells), True)
            if count is not None:
                self.assertEqual(cover_shows(table, ("cells", tuple(cells))), len(cells))
                self.assertLessEqual(len(cells), count)

    def test_one_box_apart_is_the_greatest_and_two_are_parted_by_a_line(self):
        for table in tables():
            value, boxes, tree = best_apart(table, 1)
            self.assertEqual(value, greatest_boxes(table, ("area",))[0])
            self.assertEqual(tree, ())
            self.assertTrue(all(any(plain.lies_in(box, grown) for grown in grown_boxes(table)) for box in boxes))
            sums = [one + other for _, one, other in line_bounds(table)]
            self.assertEqual(best_apart(table, 2)[0], max(sums + [value]))
            self.assertGreaterEqual(best_apart(table, 3)[0], best_apart(table, 2)[0])

    def test_let_boxes(self):
        for table in tables()[::2]:
            self.assertEqual(let_grown(table, 0), grown_boxes(table))
            least = least_noes(table)
            for k in (1, 3):
                value, _ = let_greatest(table, ("area",), k)
                sizes = [(h, w) for h, w in plain.sizes_in(table) if least[h - 1][w - 1] <= k]
                self.assertEqual(value, max(h * w for h, w in sizes))
                self.assertGreaterEqual(value, greatest_boxes(table, ("area",))[0])

    def test_texts(self):
        for table in tables():
            self.assertEqual(read_table(table_text(table)), table)
            boxes, _ = parting_told(table)
            if len(boxes) <= 52:
                self.assertEqual(read_parting(parting_text(table, boxes)), (table, boxes))

    def test_a_desk_answers_as_the_functions_tell(self):
        for table in tables()[::2]:
            desk = Desk()
            desk.say("table " + table_text(table).replace("\n", " "))
            self.assertEqual(desk.say("show"), table_text(table).replace("\n", "/"))
            self.assertEqual(desk.say("grown").split(" ")[0], str(len(grown_boxes(table))))
            for measure in MEASURES:
                value, boxes = greatest_boxes(table, measure)
                told = [str(value)] + [",".join(map(str, box)) for box in boxes]
                self.assertEqual(desk.say("best " + " ".join(map(str, measure))).split(" "), told)
            stair = " ".join(f"{height}x{width}" for height, width, _ in size_stair(table))
            self.assertEqual(desk.say("stair"), stair or "-")
            self.assertEqual(desk.say("part"), str(len(parting_told(table)[0])))
            for k in (1, 2, 3):
                self.assertEqual(desk.say(f"apart {k}"), str(best_apart(table, k)[0]))
            for height, width in plain.sizes_in(table)[::5]:
                self.assertEqual(desk.say(f"count {height} {width}"), str(window_counts(table)[height - 1][width - 1]))
                self.assertEqual(desk.say(f"few {height} {width}"), str(least_noes(table)[height - 1][width - 1]))


class TurnedAndMirrored(unittest.TestCase):
    def check(self, table, other, box_in, turned):
        """What is told of another table, which is this one turned about or mirrored."""
        rows = columns_of if turned else list
        for function in (full_boxes, grown_boxes):
            self.assertEqual(function(other), sorted(map(box_in, function(table))))
        self.assertEqual(window_counts(other), rows(window_counts(table)))
        self.assertEqual(least_noes(other), rows(least_noes(table)))
        for measure in MEASURES[:3]:
            value, boxes = greatest_boxes(table, measure)
            self.assertEqual(greatest_boxes(other, measure), (value, sorted(map(box_in, boxes))))
        self.assertEqual(let_grown(other, 2), sorted(map(box_in, let_grown(table, 2))))
        self.assertEqual(len(parting_told(other)[0]), len(parting_told(table)[0]))
        self.assertEqual(cover_count(other), cover_count(table))
        for k in (1, 2, 3):
            self.assertEqual(best_apart(other, k)[0], best_apart(table, k)[0])
        boxes, pairs = parting_told(table)
        self.assertEqual(parting_bound(other, parting_told(other)[1]), len(boxes))
        self.assertTrue(all(is_full(other, box_in(box)) for box in boxes))
        self.assertIs(parting_right(other, (sorted(map(box_in, boxes)), parting_told(other)[1])), True)

    def test_turned_about(self):
        for table in tables():
            other = turned_table(table)
            self.check(table, other, turned_box, True)
            sizes = [(width, height) for height, width, _ in size_stair(table)]
            self.assertEqual([(height, width) for height, width, _ in size_stair(other)], sorted(sizes))
            bounds = {line: parts for line, *parts in line_bounds(table)}
            words = {"row": "column", "column": "row"}
            self.assertEqual({(words[word], at): parts for (word, at), *parts in line_bounds(other)}, bounds)

    def test_mirrored(self):
        for table in tables():
            other = mirrored_table(table)
            self.check(table, other, lambda box: mirrored_box(table, box), False)
            self.assertEqual(holders(other), [row[::-1] for row in holders(table)])
            self.assertEqual([step[:2] for step in size_stair(other)], [step[:2] for step in size_stair(table)])

    def test_the_opposite(self):
        for table in tables():
            other = opposite_table(table)
            self.assertEqual(opposite_table(other), table)
            whole = len(table) * len(table[0])
            self.assertEqual(least_noes(table)[-1][-1] + least_noes(other)[-1][-1], whole)


class OneCellChanged(unittest.TestCase):
    def test_more_yes_is_never_less(self):
        dice = random.Random(23)
        for table in tables():
            r, c, other = with_one_cell_changed(table, dice)
            less, more = (table, other) if other[r][c] == 1 else (other, table)
            self.assertIs(lies_within(less, more), True)
            for measure in MEASURES:
                self.assertLessEqual(greatest_boxes(less, measure)[0], greatest_boxes(more, measure)[0])
            for k in (1, 2, 3):
                self.assertLessEqual(best_apart(less, k)[0], best_apart(more, k)[0])
            self.assertEqual(box_count(more) - box_count(less), holders(more)[r][c])
            self.assertLessEqual(len(parting_told(more)[0]), len(parting_told(less)[0]) + 1)
            self.assertEqual([max(rows) <= 1 and min(rows) >= 0 for rows in [
                [one - two for one, two in zip(few, many)] for few, many in zip(least_noes(less), least_noes(more))
            ]], [True] * len(table))

    def test_a_sheet_tells_what_is_told_of_the_table_made_anew(self):
        dice = random.Random(24)
        for table in tables():
            sheet = Sheet(table)
            now = table
            for _ in range(6):
                r, c, behind = with_one_cell_changed(now, dice)
                gone, come = sheet.put(r, c, behind[r][c])
                ahead, then = grown_boxes(made_table(now)), grown_boxes(made_table(behind))
                self.assertEqual(gone, [box for box in ahead if box not in then])
                self.assertEqual(come, [box for box in then if box not in ahead])
                self.assertEqual((sheet.table_now(), sheet.grown_now()), (behind, then))
                # Only boxes that hold the cell are full on one side of the deed and not on the other.
                holding, others = (come, gone) if behind[r][c] == 1 else (gone, come)
                self.assertTrue(all((r, c) in cells_of(box) for box in holding))
                self.assertTrue(all((r, c) not in cells_of(box) for box in others))
                now = behind

    def test_papers_of_one_table_are_judged_anew_of_another_one(self):
        dice = random.Random(25)
        for table in plain.mixed_tables():
            _, _, other = with_one_cell_changed(table, dice)
            for measure in MEASURES:
                value, boxes = greatest_boxes(other, measure)
                shown = cases_shows(other, measure, cases_tree(table, measure))
                self.assertTrue(shown is None or shown >= value)
                if boxes:
                    self.assertIs(paper_right(other, measure, value - 1, greatest_paper(table, measure)), False)
            shown = parting_bound(other, parting_told(table)[1])
            self.assertTrue(shown is None or shown <= len(parting_told(other)[0]))
            self.assertIs(parting_right(other, parting_told(table)), False)


class Refusals(unittest.TestCase):
    def test_each_is_of_its_own_class_and_made_with_a_text(self):
        table, checker = ((1, 0),), plain.checkers()[0]
        for kind, function, args in [
            (BadTable, made_table, ([],)), (BadMeasure, value_of, (("x",), 1, 1)), (BadMeasure, greatest_boxes, (table, "area")),
            (BadMeasure, greatest_paper, (table, None)), (BadMeasure, cases_tree, (table, ())),
            (NoSize, worn_table, (table, 2, 1)), (NoSize, spread_table, (table, 0, 1)), (NoSize, smoothed_table, (table, 1, 3)),
            (NoSize, filled_table, (table, 1, 10)), (NoMatch, lies_within, (table, ((1,),))), (TooMany, cover_told, (checker,)),
            (NoCount, best_apart, (table, 4)), (NoCount, let_grown, (table, -1)), (NoCount, let_greatest, (table, ("area",), True)),
            (NoCount, let_paper, (table, 1, 1, None)), (BadMeasure, let_greatest, (table, ("areas",), -1)),
            (NoCell, Sheet(table).put, (1, 0, 5)), (BadWorth, Sheet(table).put, (0, 0, 5)), (NothingDone, Sheet(table).back, ()),
            (NoText, read_table, ("a",)), (NoText, read_parting, ("b",)), (NoRow, Desk().say, ("x",)),
            (NoSheet, Desk().say, ("put 9 9 9",)), (BadTable, Desk().say, ("table # ##",)),
        ]:
            with self.subTest(function=function, args=args):
                with self.assertRaises(PaneError) as caught:
                    function(*args)
                self.assertIs(type(caught.exception), kind)
                self.assertEqual(kind.__bases__, (PaneError,))
                self.assertEqual([type(part) for part in caught.exception.args], [str])


if __name__ == "__main__":
    unittest.main()
