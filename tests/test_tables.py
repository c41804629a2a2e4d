"""Stage 1: 1.1, 1.2, 1.3, with 0.2, 0.3 and 0.5 as far as they speak of it."""

import copy
import unittest

from fullpanes.errors import BadTable, PaneError
from fullpanes.tables import (
    cells_of, full_boxes, is_box, is_full, made_table, mirrored_box, mirrored_table, opposite_table, turned_box,
    turned_table,
)
from tests import plain

TABLE = ((1, 0, 1), (1, 1, 1))
VAST = 10 ** 60 - 1


class MadeTable(unittest.TestCase):
    def check_made(self, thing, table):
        told = made_table(thing)
        self.assertEqual(told, table)
        self.assertIs(type(told), tuple)
        for row in told:
            self.assertIs(type(row), tuple)
            for cell in row:
                self.assertIs(type(cell), int)

    def check_refused(self, thing):
        with self.assertRaises(PaneError) as caught:
            made_table(thing)
        self.assertIs(type(caught.exception), BadTable)

    def test_of_lists_and_tuples_of_lists_and_tuples(self):
        self.check_made([[1, 0, 1], [1, 1, 1]], TABLE)
        self.check_made([(1, 0, 1), (1, 1, 1)], TABLE)
        self.check_made(([1, 0, 1], [1, 1, 1]), TABLE)
        self.check_made(((1, 0, 1), (1, 1, 1)), TABLE)
        self.check_made([[1, 0, 1], (1, 1, 1)], TABLE)

    def test_of_every_size(self):
        for rows in range(1, 11):
            for columns in range(1, 11):
                for cell in (0, 1):
                    self.check_made([[cell] * columns] * rows, plain.filled_table(rows, columns, cell))

    def test_of_a_table_that_it_told(self):
        for table in plain.sample_tables():
            self.check_made(table, table)
            self.check_made([list(row) for row in table], table)

    def test_no_rows_and_rows_without_cells(self):
        for thing in ([], (), [[]], [()], ([],), ((),), [[], []], [[1], []], [[], [1]]):
            with self.subTest(thing):
                self.check_refused(thing)

    def test_eleven_rows_or_columns(self):
        for rows, columns in ((11, 1), (11, 10), (1, 11), (10, 11), (11, 11), (1, 200), (200, 1)):
            with self.subTest(rows=rows, columns=columns):
                self.check_refused([[1] * columns] * rows)
                self.check_refused(((0,) * columns,) * rows)

    def test_rows_of_unlike_counts(self):
        for thing in ([[1, 0], [1]], [[1], [1, 0]], ((1, 1), (1, 1), (1, 1, 1)), [[0] * 9, [0] * 10, [0] * 9]):
            with self.subTest(thing):
                self.check_refused(thing)

    def test_cells_that_are_neither_yes_nor_no(self):
        others = [2, -1, 10, VAST, -VAST, "1", "0", "#", "", None, [], [1], (), (0,), {}, {1}, b"1", object()]
        for cell in others + [True, False]:
            with self.subTest(cell):
                for thing in ([[cell]], ((cell,),), [[1, 0], [1, cell]], [[cell, 1], [0, 1]], ((0, 1), (cell, 0))):
                    self.check_refused(thing)

    def test_rows_that_are_no_list_or_tuple(self):
        for row in plain.OTHER_THINGS:
            with self.subTest(row):
                for thing in ([row], (row,), [row, [1]], [[1], row], [[1, 0], row], [row, row]):
                    self.check_refused(thing)

    def test_things_that_are_no_list_or_tuple(self):
        for thing in plain.OTHER_THINGS:
            with self.subTest(thing):
                self.check_refused(thing)

    def test_rows_in_place_of_a_table_and_tables_in_place_of_a_row(self):
        for thing in ([1, 0], (1,), [TABLE], [[[1]]], ((((1,),),),), [[[[[1]]]]]):
            with self.subTest(thing):
                self.check_refused(thing)

    def test_what_is_handed_in_is_as_it_was_and_is_not_kept(self):
        for thing in ([[1, 0], [0, 1]], [[1, 0], [0]], [[1, 2]], [[True]], [[1], "1"]):
            before = copy.deepcopy(thing)
            try:
                made_table(thing)
            except BadTable:
                pass
            self.assertEqual(thing, before)
        thing = [[1, 0], [0, 1]]
        told = made_table(thing)
        thing[0][0] = 0
        thing.append([1, 1])
        self.assertEqual(told, ((1, 0), (0, 1)))


class Boxes(unittest.TestCase):
    def test_is_box_of_all_four_numbers_near_the_table(self):
        for rows, columns in ((1, 1), (2, 3), (3, 2), (1, 3), (3, 1)):
            table = plain.filled_table(rows, columns, 0)
            right = set(plain.every_box(table))
            near = range(-2, 6)
            for box in ((t, l, b, r) for t in near for l in near for b in near for r in near):
                self.assertIs(is_box(table, box), box in right, (table, box))

    def test_is_box_at_the_greatest_table(self):
        table = plain.filled_table(10, 10, 1)
        for box in ((0, 0, 10, 10), (9, 9, 10, 10), (0, 0, 1, 1), (0, 9, 10, 10)):
            self.assertIs(is_box(table, box), True)
        for box in ((0, 0, 11, 10), (0, 0, 10, 11), (10, 0, 10, 10), (0, 10, 10, 10), (10, 10, 11, 11)):
            self.assertIs(is_box(table, box), False)

    def test_is_box_none_high_none_wide_and_turned_about(self):
        for box in ((0, 0, 0, 1), (0, 0, 1, 0), (1, 1, 1, 1), (2, 0, 1, 1), (0, 2, 1, 1), (2, 3, 0, 0), (-1, 0, 1, 1)):
            self.assertIs(is_box(TABLE, box), False)

    def test_is_box_of_great_numbers(self):
        for box in ((0, 0, VAST, 1), (0, 0, 1, VAST), (-VAST, 0, 1, 1), (0, -VAST, 1, 1), (VAST, VAST, VAST, VAST)):
            self.assertIs(is_box(TABLE, box), False)

    def test_is_box_of_other_lengths(self):
        for thing in ((), (0,), (0, 1), (0, 0, 1), (0, 0, 1, 1, 1), (0, 0, 1, 1, None), (0, 0, 1, 1) * 50):
            self.assertIs(is_box(TABLE, thing), False)

    def test_is_box_of_true_and_false_among_the_numbers(self):
        for thing in ((False, 0, 1, 1), (0, False, 1, 1), (0, 0, True, 1), (0, 0, 1, True), (False, False, True, True)):
            self.assertIs(is_box(TABLE, thing), False)

    def test_is_box_of_other_parts(self):
        for part in plain.OTHER_THINGS + [[], [0], (), (0,), ((((0,),),),)]:
            if isinstance(part, int):
                continue
            for thing in ((part, 0, 1, 1), (0, part, 1, 1), (0, 0, part, 1), (0, 0, 1, part), (part,) * 4):
                self.assertIs(is_box(TABLE, thing), False)

    def test_is_box_of_other_kinds(self):
        for thing in plain.OTHER_THINGS + [[0, 0, 1, 1], "0011", b"0011", {0: 0, 1: 1, 2: 2, 3: 3}, {0, 1, 2, 3}]:
            self.assertIs(is_box(TABLE, thing), False)
        self.assertIs(is_box(TABLE, range(4)), False)
        self.assertIs(is_box(TABLE, ((0, 0, 1, 1),)), False)

    def test_is_full_of_every_box(self):
        for table in plain.sample_tables():
            full = set(plain.search_full(table))
            for box in plain.every_box(table):
                self.assertIs(is_full(table, box), box in full, (table, box))

    def test_cells_of_every_box(self):
        for table in (plain.filled_table(5, 4, 1), plain.filled_table(10, 10, 0)):
            for box in plain.every_box(table):
                self.assertEqual(cells_of(box), sorted(plain.box_cells(box)))

    def test_cells_of_one_row_one_column_and_one_cell(self):
        self.assertEqual(cells_of((1, 2, 2, 5)), [(1, 2), (1, 3), (1, 4)])
        self.assertEqual(cells_of((1, 2, 4, 3)), [(1, 2), (2, 2), (3, 2)])
        self.assertEqual(cells_of((9, 9, 10, 10)), [(9, 9)])
        self.assertEqual(cells_of((0, 1, 2, 3)), [(0, 1), (0, 2), (1, 1), (1, 2)])

    def test_full_boxes_by_hand(self):
        self.assertEqual(full_boxes(((1, 0), (1, 1))), [(0, 0, 1, 1), (0, 0, 2, 1), (1, 0, 2, 1), (1, 0, 2, 2), (1, 1, 2, 2)])
        self.assertEqual(full_boxes(((1,),)), [(0, 0, 1, 1)])
        self.assertEqual(full_boxes(((0,),)), [])

    def test_full_boxes_against_the_plain_search(self):
        for table in plain.sample_tables():
            self.assertEqual(full_boxes(table), plain.search_full(table))

    def test_full_boxes_of_all_yes_and_all_no(self):
        for rows, columns in ((1, 10), (10, 1), (3, 7), (10, 10)):
            self.assertEqual(full_boxes(plain.filled_table(rows, columns, 0)), [])
            full = plain.filled_table(rows, columns, 1)
            self.assertEqual(full_boxes(full), sorted(plain.every_box(full)))


class Turned(unittest.TestCase):
    def test_by_hand(self):
        self.assertEqual(turned_table(TABLE), ((1, 1), (0, 1), (1, 1)))
        self.assertEqual(mirrored_table(((1, 0, 0), (1, 1, 0))), ((0, 0, 1), (0, 1, 1)))
        self.assertEqual(opposite_table(TABLE), ((0, 1, 0), (0, 0, 0)))
        self.assertEqual(turned_box((1, 2, 3, 5)), (2, 1, 5, 3))
        self.assertEqual(mirrored_box(plain.filled_table(4, 7, 0), (1, 2, 3, 6)), (1, 1, 3, 5))

    def test_tables_cell_by_cell(self):
        for table in plain.sample_tables():
            rows, columns = len(table), len(table[0])
            turned, mirrored, opposite = turned_table(table), mirrored_table(table), opposite_table(table)
            self.assertEqual((len(turned), len(turned[0])), (columns, rows))
            self.assertEqual((len(mirrored), len(mirrored[0])), (rows, columns))
            self.assertEqual((len(opposite), len(opposite[0])), (rows, columns))
            for r in range(rows):
                for c in range(columns):
                    self.assertEqual(turned[c][r], table[r][c])
                    self.assertEqual(mirrored[r][columns - 1 - c], table[r][c])
                    self.assertNotEqual(opposite[r][c], table[r][c])

    def test_what_is_told_is_a_table(self):
        for table in plain.sample_tables():
            for told in (turned_table(table), mirrored_table(table), opposite_table(table)):
                self.assertEqual(made_table(told), told)
                self.assertEqual([type(row) for row in told], [tuple] * len(told))

    def test_tables_twice(self):
        for table in plain.sample_tables():
            self.assertEqual(turned_table(turned_table(table)), table)
            self.assertEqual(mirrored_table(mirrored_table(table)), table)
            self.assertEqual(opposite_table(opposite_table(table)), table)

    def test_boxes_cell_by_cell(self):
        for rows, columns in ((1, 1), (1, 10), (10, 1), (4, 6)):
            table = plain.filled_table(rows, columns, 1)
            for box in plain.every_box(table):
                cells = plain.box_cells(box)
                self.assertEqual(plain.box_cells(turned_box(box)), {(c, r) for r, c in cells})
                self.assertEqual(plain.box_cells(mirrored_box(table, box)), {(r, columns - 1 - c) for r, c in cells})

    def test_boxes_twice(self):
        table = plain.filled_table(4, 6, 1)
        for box in plain.every_box(table):
            self.assertEqual(turned_box(turned_box(box)), box)
            self.assertEqual(mirrored_box(table, mirrored_box(table, box)), box)

    def test_boxes_stay_boxes_and_full_where_their_table_goes_along(self):
        for table in plain.mixed_tables():
            boxes = full_boxes(table)
            self.assertEqual(sorted(turned_box(box) for box in boxes), full_boxes(turned_table(table)))
            self.assertEqual(sorted(mirrored_box(table, box) for box in boxes), full_boxes(mirrored_table(table)))
            self.assertTrue(all(is_box(turned_table(table), turned_box(box)) for box in boxes))
            self.assertTrue(all(is_box(mirrored_table(table), mirrored_box(table, box)) for box in boxes))


if __name__ == "__main__":
    unittest.main()
