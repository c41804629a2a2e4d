"""Stage 4: 4.1 and 4.3, with 0.2 as far as it speaks of them."""

import unittest

from fullpanes.counts import box_count, holders, window_counts
from fullpanes.pieces import holes_of, pieces_of
from fullpanes.worn import worn_table
from tests import plain


def count_at(counts, height, width):
    """How many full boxes of a size, 0 of sizes that aren't in the table."""
    if height > len(counts) or width > len(counts[0]):
        return 0
    return counts[height - 1][width - 1]


def checkers():
    return [tuple(tuple((r + c + k) % 2 for c in range(w)) for r in range(h))
            for h, w in ((1, 1), (2, 3), (5, 5), (10, 10)) for k in (0, 1)]


class WindowCounts(unittest.TestCase):
    def test_by_hand(self):
        self.assertEqual(window_counts(((1, 1, 0), (1, 1, 1))), [[5, 3, 1], [2, 1, 0]])
        self.assertEqual(window_counts(((1,),)), [[1]])
        self.assertEqual(window_counts(((0,),)), [[0]])
        self.assertEqual(window_counts(((1, 1, 1),)), [[3, 2, 1]])
        self.assertEqual(window_counts(((1,), (1,), (0,))), [[2], [1], [0]])

    def test_against_the_plain_search(self):
        for table in plain.sample_tables() + checkers():
            full = [plain.height_and_width(box) for box in plain.search_full(table)]
            rows, columns = range(1, len(table) + 1), range(1, len(table[0]) + 1)
            self.assertEqual(window_counts(table), [[full.count((h, w)) for w in columns] for h in rows], table)

    def test_of_all_yes_and_all_no(self):
        for rows, columns in ((1, 1), (1, 10), (10, 1), (4, 7), (10, 10)):
            told = [[(rows - h) * (columns - w) for w in range(columns)] for h in range(rows)]
            self.assertEqual(window_counts(plain.filled_table(rows, columns, 1)), told)
            self.assertEqual(window_counts(plain.filled_table(rows, columns, 0)), [[0] * columns] * rows)

    def test_of_checkers_there_are_lone_cells_alone(self):
        told = [[0] * 10 for _ in range(10)]
        told[0][0] = 50
        for table in checkers()[-2:]:
            self.assertEqual(window_counts(table), told)


class BoxCount(unittest.TestCase):
    def test_by_hand(self):
        self.assertEqual(box_count(((1, 1, 0), (1, 1, 1))), 12)
        self.assertEqual(box_count(((1,),)), 1)
        self.assertEqual(box_count(((0,),)), 0)
        self.assertEqual(box_count(plain.filled_table(10, 10, 1)), 3025)
        self.assertEqual(box_count(plain.filled_table(10, 10, 0)), 0)

    def test_against_the_plain_search(self):
        for table in plain.sample_tables() + checkers():
            told = box_count(table)
            self.assertEqual(told, len(plain.search_full(table)), table)
            self.assertIs(type(told), int)


class Holders(unittest.TestCase):
    def test_by_hand(self):
        self.assertEqual(holders(((1, 1, 0), (1, 1, 1))), [[4, 4, 0], [5, 6, 3]])
        self.assertEqual(holders(((1, 1, 1),)), [[3, 4, 3]])
        self.assertEqual(holders(((1,), (0,))), [[1], [0]])

    def test_against_the_plain_search(self):
        for table in plain.sample_tables() + checkers():
            held = [plain.box_cells(box) for box in plain.search_full(table)]
            told = [[sum((r, c) in cells for cells in held) for c in range(len(table[0]))] for r in range(len(table))]
            self.assertEqual(holders(table), told, table)


class FourCounts(unittest.TestCase):
    def check_size(self, table, counts, a, b):
        four = (count_at(counts, a, b) - count_at(counts, a, b + 1)
                - count_at(counts, a + 1, b) + count_at(counts, a + 1, b + 1))
        worn = worn_table(table, a, b)
        self.assertEqual(four, len(pieces_of(worn)) - len(holes_of(worn)), (table, a, b))

    def test_of_each_size_they_tell_the_pieces_less_the_holes_of_the_worn_table(self):
        for table in plain.sample_tables() + checkers():
            counts = window_counts(table)
            for a, b in plain.sizes_in(table):
                self.check_size(table, counts, a, b)

    def test_of_rings(self):
        for rows, columns in ((3, 3), (5, 7), (10, 10)):
            ring = [[1] * columns for _ in range(rows)]
            for r in range(1, rows - 1):
                ring[r][1:-1] = [0] * (columns - 2)
            table = tuple(tuple(row) for row in ring)
            for a, b in plain.sizes_in(table):
                self.check_size(table, window_counts(table), a, b)


if __name__ == "__main__":
    unittest.main()
