"""Stage 5: 5.1 to 5.4, with 0.2 and 0.4 as far as they speak of them."""

import copy
import unittest

from fullpanes.errors import NoMatch, NoSize, PaneError
from fullpanes.tables import made_table
from fullpanes.worn import filled_table, lies_within, smoothed_table, spread_table, worn_table
from tests import plain

TABLE = ((1, 1, 0, 1), (1, 1, 1, 1), (0, 1, 1, 0))
VAST = plain.VAST
ALL_OF_SIZES = (worn_table, spread_table, smoothed_table, filled_table)


def yeses_as_table(rows, columns, yeses):
    return tuple(tuple(int((r, c) in yeses) for c in range(columns)) for r in range(rows))


def reckon_worn(table, a, b):
    rows, columns = len(table) - a + 1, len(table[0]) - b + 1
    yeses = {(r, c) for r in range(rows) for c in range(columns)
             if all(table[i][j] == 1 for i in range(r, r + a) for j in range(c, c + b))}
    return yeses_as_table(rows, columns, yeses)


def reckon_spread(table, a, b):
    rows, columns = len(table) + a - 1, len(table[0]) + b - 1
    yeses = {(r, c) for r in range(rows) for c in range(columns)
             if any(i <= r < i + a and j <= c < j + b for i, j in plain.yes_cells(table))}
    return yeses_as_table(rows, columns, yeses)


def reckon_smoothed(table, a, b):
    """The cells that some full window of the size holds."""
    held = [plain.box_cells(box) for box in plain.search_full(table) if plain.height_and_width(box) == (a, b)]
    return yeses_as_table(len(table), len(table[0]), set().union(*held))


def sizes_to_spread(table):
    return [(a, b) for a in range(1, 12 - len(table)) for b in range(1, 12 - len(table[0]))]


class Checked(unittest.TestCase):
    def check_table(self, told, table):
        self.assertEqual(told, table)
        self.assertEqual(made_table(told), told)
        self.assertEqual([type(row) for row in told], [tuple] * len(table))
        self.assertIs(type(told), tuple)

    def check_refused(self, kind, function, *args):
        with self.assertRaises(PaneError) as caught:
            function(*args)
        self.assertIs(type(caught.exception), kind)

    def check_no_sizes(self, function, table, sizes):
        """Each size, and each thing that is none, in the first, the second and both places."""
        for a, b in sizes:
            with self.subTest(function=function.__name__, a=a, b=b):
                self.check_refused(NoSize, function, table, a, b)
        for thing in plain.OTHER_SIZES:
            for a, b in ((thing, 1), (1, thing), (thing, thing)):
                with self.subTest(function=function.__name__, a=a, b=b):
                    self.check_refused(NoSize, function, table, a, b)


class Worn(Checked):
    def test_by_hand(self):
        self.check_table(worn_table(TABLE, 2, 2), ((1, 0, 0), (0, 1, 0)))
        self.check_table(worn_table(TABLE, 1, 2), ((1, 0, 0), (1, 1, 1), (0, 1, 0)))
        self.check_table(worn_table(TABLE, 3, 1), ((0, 1, 0, 0),))
        self.check_table(worn_table(TABLE, 3, 4), ((0,),))
        self.check_table(worn_table(((1, 1), (1, 1)), 2, 2), ((1,),))

    def test_against_the_plain_reckoning(self):
        for table in plain.sample_tables():
            for a, b in plain.sizes_in(table):
                self.check_table(worn_table(table, a, b), reckon_worn(table, a, b))

    def test_by_1_and_1_it_is_the_table(self):
        for table in plain.sample_tables():
            for function in ALL_OF_SIZES:
                self.check_table(function(table, 1, 1), table)

    def test_no_size(self):
        for table in (TABLE, ((1,),), ((0,),), plain.filled_table(10, 10, 1)):
            rows, columns = len(table), len(table[0])
            sizes = [(0, 1), (1, 0), (0, 0), (rows + 1, 1), (1, columns + 1), (rows + 1, columns + 1), (-1, 1),
                     (1, -1), (-VAST, -VAST), (rows, True), (True, columns), (VAST, columns), (rows, VAST)]
            self.check_no_sizes(worn_table, table, sizes)
            self.check_no_sizes(smoothed_table, table, sizes)

    def test_the_one_size_may_be_right_for_the_other_place_alone(self):
        # The table has three rows and four columns.
        self.assertEqual(len(worn_table(TABLE, 3, 4)), 1)
        self.check_refused(NoSize, worn_table, TABLE, 4, 3)
        self.check_refused(NoSize, smoothed_table, TABLE, 4, 3)


class Spread(Checked):
    def test_by_hand(self):
        self.check_table(spread_table(((1, 0), (0, 0)), 2, 3), ((1, 1, 1, 0), (1, 1, 1, 0), (0, 0, 0, 0)))
        self.check_table(spread_table(((1, 0, 0, 1),), 1, 2), ((1, 1, 0, 1, 1),))
        self.check_table(spread_table(((0, 1), (0, 0)), 2, 1), ((0, 1), (0, 1), (0, 0)))
        self.check_table(spread_table(((1,),), 10, 10), plain.filled_table(10, 10, 1))
        self.check_table(spread_table(((0,),), 10, 10), plain.filled_table(10, 10, 0))

    def test_against_the_plain_reckoning(self):
        for table in plain.small_tables()[::7] + plain.mixed_tables() + plain.great_tables():
            for a, b in sizes_to_spread(table):
                self.check_table(spread_table(table, a, b), reckon_spread(table, a, b))

    def test_no_size(self):
        for table in (TABLE, ((1,),), ((0,),), plain.filled_table(10, 10, 1), plain.filled_table(10, 1, 0)):
            high, wide = 11 - len(table), 11 - len(table[0])
            self.assertEqual((len(spread_table(table, high, wide)), len(filled_table(table, high, 1))), (10, len(table)))
            sizes = [(0, 1), (1, 0), (0, 0), (high + 1, 1), (1, wide + 1), (high + 1, wide + 1), (-1, 1), (1, -1),
                     (-VAST, -VAST), (high, True), (True, wide), (VAST, wide), (high, VAST)]
            self.check_no_sizes(spread_table, table, sizes)
            self.check_no_sizes(filled_table, table, sizes)

    def test_the_one_size_may_be_right_for_the_other_place_alone(self):
        self.assertEqual(len(spread_table(TABLE, 8, 7)), 10)
        self.check_refused(NoSize, spread_table, TABLE, 7, 8)
        self.check_refused(NoSize, filled_table, TABLE, 7, 8)


class Smoothed(Checked):
    def test_by_hand(self):
        self.check_table(smoothed_table(TABLE, 2, 2), ((1, 1, 0, 0), (1, 1, 1, 0), (0, 1, 1, 0)))
        self.check_table(smoothed_table(TABLE, 1, 4), ((0, 0, 0, 0), (1, 1, 1, 1), (0, 0, 0, 0)))

    def test_it_is_the_cells_that_some_full_window_holds(self):
        for table in plain.sample_tables():
            for a, b in plain.sizes_in(table):
                self.check_table(smoothed_table(table, a, b), reckon_smoothed(table, a, b))

    def test_it_lies_within_the_table_and_smoothed_again_it_is_the_same(self):
        for table in plain.mixed_tables():
            for a, b in plain.sizes_in(table):
                told = smoothed_table(table, a, b)
                self.assertIs(lies_within(told, table), True)
                self.assertEqual(smoothed_table(told, a, b), told)

    def test_sizes_to_wear_by_are_taken_that_are_none_to_spread_by(self):
        full = plain.filled_table(10, 10, 1)
        self.check_table(smoothed_table(full, 10, 10), full)
        self.check_table(smoothed_table(full, 7, 3), full)


class Filled(Checked):
    def test_by_hand(self):
        self.check_table(filled_table(((1, 0, 1),), 1, 2), ((1, 1, 1),))
        self.check_table(filled_table(((1, 0, 0, 1),), 1, 2), ((1, 0, 0, 1),))
        self.check_table(filled_table(((1, 0), (0, 1)), 2, 2), ((1, 0), (0, 1)))
        self.check_table(filled_table(((0, 1), (1, 0)), 2, 2), ((0, 1), (1, 0)))
        self.check_table(filled_table(((1, 1, 1), (1, 0, 1), (1, 1, 1)), 2, 2), plain.filled_table(3, 3, 1))

    def test_against_the_plain_reckoning(self):
        for table in plain.small_tables()[::7] + plain.mixed_tables() + plain.great_tables():
            for a, b in sizes_to_spread(table):
                self.check_table(filled_table(table, a, b), reckon_worn(reckon_spread(table, a, b), a, b))

    def test_the_table_lies_within_it_and_filled_again_it_is_the_same(self):
        for table in plain.mixed_tables():
            for a, b in sizes_to_spread(table):
                told = filled_table(table, a, b)
                self.assertIs(lies_within(table, told), True)
                self.assertEqual(filled_table(told, a, b), told)

    def test_sizes_to_spread_by_are_taken_that_are_none_to_wear_by(self):
        self.check_table(filled_table(((1, 0),), 10, 9), ((1, 0),))
        self.check_table(filled_table(((1,), (0,)), 9, 10), ((1,), (0,)))


class LiesWithin(Checked):
    def test_of_equal_tables(self):
        for table in plain.sample_tables():
            self.assertIs(lies_within(table, table), True)
            self.assertIs(lies_within(table, tuple(tuple(list(row)) for row in table)), True)

    def test_of_tables_unlike_at_one_cell(self):
        for table in plain.mixed_tables() + [TABLE, ((0,),), ((1,),)]:
            for r in range(len(table)):
                for c in range(len(table[0])):
                    changed = [list(row) for row in table]
                    changed[r][c] = 1 - changed[r][c]
                    other = tuple(tuple(row) for row in changed)
                    self.assertIs(lies_within(table, other), table[r][c] == 0)
                    self.assertIs(lies_within(other, table), table[r][c] == 1)

    def test_of_all_small_tables_of_one_size(self):
        tables = [table for table in plain.small_tables() if (len(table), len(table[0])) == (2, 2)]
        for one in tables:
            for other in tables:
                self.assertIs(lies_within(one, other), plain.yes_cells(one) <= plain.yes_cells(other))

    def test_no_match(self):
        sizes = [(1, 1), (1, 2), (2, 1), (2, 2), (2, 3), (3, 2), (1, 10), (10, 1), (10, 10)]
        for one in sizes:
            for other in sizes:
                if one != other:
                    for cell in (0, 1):
                        pair = plain.filled_table(*one, cell), plain.filled_table(*other, 1 - cell)
                        self.check_refused(NoMatch, lies_within, *pair)
                        self.check_refused(NoMatch, lies_within, plain.filled_table(*one, 0), pair[1])

    def test_no_match_of_a_table_turned_about(self):
        for table in (TABLE, ((1, 1),), ((0,), (1,), (0,))):
            turned = tuple(zip(*table))
            self.check_refused(NoMatch, lies_within, table, turned)
            self.check_refused(NoMatch, lies_within, turned, table)


class Untouched(Checked):
    def test_what_is_refused_is_not_changed(self):
        for size in ([1], [1, [2]], {1: [1]}, ([1], 2)):
            before = copy.deepcopy(size)
            for function in ALL_OF_SIZES:
                self.check_refused(NoSize, function, TABLE, size, 1)
                self.check_refused(NoSize, function, TABLE, 1, size)
            self.assertEqual(size, before)


if __name__ == "__main__":
    unittest.main()
