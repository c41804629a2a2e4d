"""Stage 2: 2.1, 2.2, 2.3, with 0.2, 0.5 and 0.6 as far as they speak of it."""

import unittest
from itertools import permutations

from fullpanes.grown import grown_boxes, grown_by, grown_over, sides_of
from fullpanes.tables import full_boxes
from tests import plain

ORDERS = list(permutations(range(4)))


class GrownBoxes(unittest.TestCase):
    def test_by_hand(self):
        self.assertEqual(grown_boxes(((1, 0), (1, 1))), [(0, 0, 2, 1), (1, 0, 2, 2)])
        self.assertEqual(grown_boxes(((0, 1, 0), (1, 1, 1), (0, 1, 0))), [(0, 1, 3, 2), (1, 0, 2, 3)])
        self.assertEqual(grown_boxes(((1, 0), (0, 1))), [(0, 0, 1, 1), (1, 1, 2, 2)])
        self.assertEqual(grown_boxes(((1, 1, 0), (1, 1, 1), (0, 1, 1))),
                         [(0, 0, 2, 2), (0, 1, 3, 2), (1, 0, 2, 3), (1, 1, 3, 3)])

    def test_of_all_yes_and_all_no(self):
        for rows, columns in ((1, 1), (1, 10), (10, 1), (4, 3), (10, 10)):
            self.assertEqual(grown_boxes(plain.filled_table(rows, columns, 1)), [(0, 0, rows, columns)])
            self.assertEqual(grown_boxes(plain.filled_table(rows, columns, 0)), [])

    def test_against_the_plain_search(self):
        for table in plain.sample_tables():
            self.assertEqual(grown_boxes(table), plain.search_grown(table), table)

    def test_each_full_box_lies_in_one_of_them(self):
        for table in plain.mixed_tables():
            held = [plain.box_cells(grown) for grown in grown_boxes(table)]
            for box in plain.search_full(table):
                self.assertTrue(any(plain.box_cells(box) <= cells for cells in held), (table, box))


class SidesOf(unittest.TestCase):
    def test_the_rim_on_all_sides(self):
        self.assertEqual(sides_of(plain.filled_table(3, 2, 1), (0, 0, 3, 2)), ((), (), (), ()))
        self.assertEqual(sides_of(((1,),), (0, 0, 1, 1)), ((), (), (), ()))

    def test_yeses_on_all_sides(self):
        self.assertEqual(sides_of(plain.filled_table(4, 4, 1), (1, 1, 3, 3)), (None, None, None, None))

    def test_noes_at_the_corners_alone_stop_no_side(self):
        table = ((0, 1, 1, 0), (1, 1, 1, 1), (1, 1, 1, 1), (0, 1, 1, 0))
        self.assertEqual(sides_of(table, (1, 1, 3, 3)), (None, None, None, None))

    def test_the_least_no_on_all_sides(self):
        table = ((1, 1, 0, 1), (0, 1, 1, 0), (0, 1, 1, 0), (1, 0, 0, 1))
        self.assertEqual(sides_of(table, (1, 1, 3, 3)), ((0, 2), (1, 0), (3, 1), (1, 3)))

    def test_each_side_alone_has_a_rim_a_no_or_yeses(self):
        full = plain.filled_table(4, 4, 1)
        rims = [(0, 1, 3, 3), (1, 0, 3, 3), (1, 1, 4, 3), (1, 1, 3, 4)]
        noes = [(0, 2), (2, 0), (3, 2), (2, 3)]
        for side in range(4):
            others = [None, None, None, None]
            others[side] = ()
            self.assertEqual(sides_of(full, rims[side]), tuple(others))
            r, c = others[side] = noes[side]
            table = [list(row) for row in full]
            table[r][c] = 0
            self.assertEqual(sides_of(tuple(tuple(row) for row in table), (1, 1, 3, 3)), tuple(others))
            others[side] = None
            self.assertEqual(sides_of(full, (1, 1, 3, 3)), tuple(others))

    def test_against_the_plain_search(self):
        for table in plain.sample_tables():
            for box in plain.search_full(table):
                told = sides_of(table, box)
                self.assertEqual(told, plain.search_sides(table, box), (table, box))
                self.assertIs(type(told), tuple)

    def test_full_grown_just_where_no_side_is_none(self):
        for table in plain.mixed_tables():
            boxes = [box for box in full_boxes(table) if None not in sides_of(table, box)]
            self.assertEqual(boxes, plain.search_grown(table))


class GrownBy(unittest.TestCase):
    def test_the_order_tells_what_comes(self):
        table = ((0, 1, 0), (1, 1, 1), (0, 1, 0))
        self.assertEqual(grown_by(table, (1, 1, 2, 2), [0, 1, 2, 3]), (0, 1, 3, 2))
        self.assertEqual(grown_by(table, (1, 1, 2, 2), [1, 0, 2, 3]), (1, 0, 2, 3))
        self.assertEqual(grown_by(table, (1, 1, 2, 2), (2, 3, 0, 1)), (0, 1, 3, 2))
        self.assertEqual(grown_by(table, (1, 1, 2, 2), (3, 2, 1, 0)), (1, 0, 2, 3))

    def test_a_side_is_moved_out_as_long_as_it_can_be(self):
        table = plain.filled_table(10, 10, 1)
        for order in ORDERS:
            self.assertEqual(grown_by(table, (4, 5, 5, 6), order), (0, 0, 10, 10))

    def test_a_full_grown_box_stays(self):
        for table in plain.mixed_tables():
            for box in plain.search_grown(table):
                for order in ORDERS:
                    self.assertEqual(grown_by(table, box, order), box)

    def test_by_all_orders_against_the_plain_search(self):
        for table in plain.small_tables() + plain.mixed_tables()[::3]:
            grown = plain.search_grown(table)
            for box in plain.search_full(table):
                for order in ORDERS:
                    told = grown_by(table, box, order)
                    self.assertEqual(told, plain.search_by(table, box, order), (table, box, order))
                    self.assertIn(told, grown)

    def test_by_a_list_as_by_a_tuple_that_are_not_changed(self):
        for table in plain.mixed_tables()[::5]:
            for box in plain.search_full(table):
                for order in ORDERS:
                    handed = list(order)
                    self.assertEqual(grown_by(table, box, handed), grown_by(table, box, order))
                    self.assertEqual(handed, list(order))


class GrownOver(unittest.TestCase):
    def test_by_hand(self):
        table = ((0, 1, 0), (1, 1, 1), (0, 1, 0))
        self.assertEqual(grown_over(table, (1, 1, 2, 2)), [(0, 1, 3, 2), (1, 0, 2, 3)])
        self.assertEqual(grown_over(table, (0, 1, 1, 2)), [(0, 1, 3, 2)])
        self.assertEqual(grown_over(table, (0, 1, 3, 2)), [(0, 1, 3, 2)])

    def test_against_the_plain_search(self):
        for table in plain.small_tables() + plain.mixed_tables()[::3]:
            for box in plain.search_full(table):
                self.assertEqual(grown_over(table, box), plain.search_over(table, box), (table, box))

    def test_of_a_full_grown_box_it_is_itself(self):
        for table in plain.mixed_tables():
            for box in plain.search_grown(table):
                self.assertEqual(grown_over(table, box), [box])


if __name__ == "__main__":
    unittest.main()
