"""Stage 3: 3.1, 3.2, 3.3, with 0.4 and 0.6 as far as they speak of it."""

import copy
import unittest

from fullpanes.cases import cases_tree
from fullpanes.errors import BadMeasure, PaneError
from fullpanes.measures import greatest_boxes, size_stair, value_of
from fullpanes.papers import greatest_paper
from tests import plain

VAST = plain.VAST


class ValueOf(unittest.TestCase):
    def check_value(self, measure, height, width, value):
        told = value_of(measure, height, width)
        self.assertEqual(told, value)
        self.assertIs(type(told), int)

    def test_area(self):
        for height, width, value in ((1, 1, 1), (3, 4, 12), (10, 10, 100), (1, VAST, VAST), (VAST, VAST, VAST ** 2)):
            self.check_value(("area",), height, width, value)

    def test_sides(self):
        for height, width, value in ((1, 1, 2), (3, 4, 7), (10, 10, 20), (VAST, 1, 10 ** 60), (VAST, VAST, 2 * VAST)):
            self.check_value(("sides",), height, width, value)

    def test_square(self):
        for height, width, value in ((1, 1, 1), (3, 4, 3), (4, 3, 3), (1, VAST, 1), (VAST, 2, 2), (VAST, VAST, VAST)):
            self.check_value(("square",), height, width, value)

    def test_weights(self):
        self.check_value(("weights", 2, 5), 3, 4, 26)
        self.check_value(("weights", 5, 2), 3, 4, 23)
        self.check_value(("weights", 0, 0), 3, 4, 0)
        self.check_value(("weights", 0, 0), VAST, VAST, 0)
        self.check_value(("weights", 1, 0), 3, 4, 3)
        self.check_value(("weights", 0, 1), 3, 4, 4)
        self.check_value(("weights", VAST, 1), 2, 3, 2 * VAST + 3)
        self.check_value(("weights", 1, VAST), 2, 3, 3 * VAST + 2)
        self.check_value(("weights", VAST, VAST), VAST, VAST, 2 * VAST ** 2)

    def test_against_the_plain_reckoning(self):
        sides = [1, 2, 3, 9, 10, 11, 10 ** 59, VAST]
        for measure in plain.MEASURES:
            for height in sides:
                for width in sides:
                    self.check_value(measure, height, width, plain.plain_value(measure, height, width))

    def test_no_measure_falls_where_height_or_width_grows(self):
        for measure in plain.MEASURES:
            for height in range(1, 12):
                for width in range(1, 12):
                    value = value_of(measure, height, width)
                    self.assertGreaterEqual(value_of(measure, height + 1, width), value)
                    self.assertGreaterEqual(value_of(measure, height, width + 1), value)


class Refusals(unittest.TestCase):
    def check_refused(self, function, *args):
        with self.assertRaises(PaneError) as caught:
            function(*args)
        self.assertIs(type(caught.exception), BadMeasure)

    def test_value_of_anything_else(self):
        for measure in plain.OTHER_MEASURES:
            with self.subTest(measure):
                self.check_refused(value_of, measure, 2, 3)
                self.check_refused(value_of, measure, VAST, VAST)

    def test_of_tables_with_and_without_yes(self):
        tables = [((1,),), ((0,),), ((1, 0), (1, 1)), plain.filled_table(10, 10, 0)]
        for measure in plain.OTHER_MEASURES:
            for table in tables:
                for function in (greatest_boxes, greatest_paper, cases_tree):
                    with self.subTest(measure, function=function.__name__):
                        self.check_refused(function, table, measure)

    def test_what_is_refused_is_not_changed(self):
        for measure in (["area"], ["weights", 1, 2], (["area"],), ("weights", [1], 2), {"area": [1]}):
            before = copy.deepcopy(measure)
            self.check_refused(value_of, measure, 1, 1)
            self.check_refused(greatest_boxes, ((1,),), measure)
            self.assertEqual(measure, before)


class GreatestBoxes(unittest.TestCase):
    def test_by_hand(self):
        table = ((1, 1, 1, 1), (1, 1, 0, 0), (1, 1, 0, 0))
        self.assertEqual(greatest_boxes(table, ("area",)), (6, [(0, 0, 3, 2)]))
        self.assertEqual(greatest_boxes(table, ("sides",)), (5, [(0, 0, 1, 4), (0, 0, 3, 2)]))
        self.assertEqual(greatest_boxes(table, ("square",)), (2, [(0, 0, 3, 2)]))
        self.assertEqual(greatest_boxes(table, ("weights", 0, 1)), (4, [(0, 0, 1, 4)]))
        self.assertEqual(greatest_boxes(table, ("weights", 1, 0)), (3, [(0, 0, 3, 2)]))

    def test_only_full_grown_ones_are_told(self):
        # The box of the first two rows is as wide, but it can grow.
        self.assertEqual(greatest_boxes(((1, 1), (1, 1), (1, 1)), ("weights", 0, 2)), (4, [(0, 0, 3, 2)]))
        self.assertEqual(greatest_boxes(((1, 1, 1), (1, 1, 1)), ("square",)), (2, [(0, 0, 2, 3)]))

    def test_without_yes(self):
        for rows, columns in ((1, 1), (1, 10), (10, 1), (3, 4), (10, 10)):
            for measure in plain.MEASURES:
                self.assertEqual(greatest_boxes(plain.filled_table(rows, columns, 0), measure), (0, []))

    def test_weights_0_and_0_where_there_is_a_yes(self):
        for table in plain.mixed_tables():
            self.assertEqual(greatest_boxes(table, ("weights", 0, 0)), (0, plain.search_grown(table)))

    def test_against_the_plain_search(self):
        for table in plain.sample_tables():
            for measure in plain.MEASURES:
                told = greatest_boxes(table, measure)
                self.assertEqual(told, plain.search_greatest(table, measure), (table, measure))
                self.assertEqual([type(part) for part in told], [int, list])

    def test_no_full_box_is_greater(self):
        for table in plain.mixed_tables():
            for measure in plain.MEASURES:
                value, _ = greatest_boxes(table, measure)
                for box in plain.search_full(table):
                    self.assertLessEqual(value_of(measure, *plain.height_and_width(box)), value)


class SizeStair(unittest.TestCase):
    def search_stair(self, table):
        boxes = plain.search_full(table)
        sizes = {plain.height_and_width(box) for box in boxes}
        ends = [size for size in sizes if not any(plain.is_beyond(other, size) for other in sizes - {size})]
        return [(*size, min(box for box in boxes if plain.height_and_width(box) == size)) for size in sorted(ends)]

    def test_by_hand(self):
        table = ((1, 1, 1, 1), (1, 1, 0, 0), (1, 1, 0, 0))
        self.assertEqual(size_stair(table), [(1, 4, (0, 0, 1, 4)), (3, 2, (0, 0, 3, 2))])
        self.assertEqual(size_stair(((0, 1, 0), (1, 1, 1), (0, 1, 0))), [(1, 3, (1, 0, 2, 3)), (3, 1, (0, 1, 3, 2))])

    def test_the_least_box_of_a_size(self):
        self.assertEqual(size_stair(((0, 1, 1), (0, 0, 0), (1, 1, 0))), [(1, 2, (0, 1, 1, 3))])
        self.assertEqual(size_stair(((0, 1, 0, 1), (1, 1, 0, 1), (1, 0, 0, 0))),
                         [(1, 2, (1, 0, 2, 2)), (2, 1, (0, 1, 2, 2))])

    def test_of_all_yes_and_all_no(self):
        for rows, columns in ((1, 1), (1, 10), (10, 1), (4, 3), (10, 10)):
            full = plain.filled_table(rows, columns, 1)
            self.assertEqual(size_stair(full), [(rows, columns, (0, 0, rows, columns))])
            self.assertEqual(size_stair(plain.filled_table(rows, columns, 0)), [])

    def test_against_the_plain_search(self):
        for table in plain.sample_tables():
            self.assertEqual(size_stair(table), self.search_stair(table), table)

    def test_heights_rise_and_widths_fall(self):
        for table in plain.sample_tables():
            told = size_stair(table)
            for low, high in zip(told, told[1:]):
                self.assertLess(low[0], high[0])
                self.assertGreater(low[1], high[1])


if __name__ == "__main__":
    unittest.main()
