"""Stage 4: 4.2, with 0.2 and 0.5 as far as they speak of it."""

import unittest

from fullpanes.pieces import holes_of, pieces_of
from tests import plain


def table_of(*rows):
    return tuple(tuple(int(sign == "#") for sign in row) for row in rows)


# Three rings, one within the other: yeses, noes, yeses, noes and so on from the rim on.
RINGS = tuple(tuple((min(r, c, 8 - r, 8 - c) + 1) % 2 for c in range(9)) for r in range(9))


def search_together(cells, near):
    """The cells merged, two sets at a time, as long as two of them have cells near each other."""
    sets = [{cell} for cell in cells]
    for one in sorted(cells):
        joined = [part for part in sets if any(near(one, other) for other in part)] + [{one}]
        sets = [part for part in sets if not any(part & other for other in joined)] + [set().union(*joined)]
    return sorted(sorted(part) for part in sets)


def side_by_side(one, other):
    return abs(one[0] - other[0]) + abs(one[1] - other[1]) == 1


def near_at_all(one, other):
    return max(abs(one[0] - other[0]), abs(one[1] - other[1])) == 1


def search_holes(table):
    rows, columns = len(table), len(table[0])
    noes = {(r, c) for r in range(rows) for c in range(columns)} - plain.yes_cells(table)
    rim = {(r, c) for r, c in noes if r in (0, rows - 1) or c in (0, columns - 1)}
    return [cells for cells in search_together(noes, near_at_all) if not rim & set(cells)]


class Pieces(unittest.TestCase):
    def test_by_hand(self):
        table = table_of("##.#", "...#", "#.##")
        self.assertEqual(pieces_of(table), [[(0, 0), (0, 1)], [(0, 3), (1, 3), (2, 2), (2, 3)], [(2, 0)]])

    def test_corner_to_corner_alone_is_apart(self):
        self.assertEqual(pieces_of(table_of("#.", ".#")), [[(0, 0)], [(1, 1)]])
        self.assertEqual(pieces_of(table_of(".#", "#.")), [[(0, 1)], [(1, 0)]])
        self.assertEqual(pieces_of(table_of("#..", ".#.", "..#")), [[(0, 0)], [(1, 1)], [(2, 2)]])

    def test_hanging_together_in_the_end(self):
        # Its first cells lie in unlike columns and meet in the last row alone.
        table = table_of("#.#", "#.#", "###")
        self.assertEqual(pieces_of(table), [[(0, 0), (0, 2), (1, 0), (1, 2), (2, 0), (2, 1), (2, 2)]])
        table = table_of("..#", "#.#", "###")
        self.assertEqual(pieces_of(table), [[(0, 2), (1, 0), (1, 2), (2, 0), (2, 1), (2, 2)]])

    def test_no_hanging_together_over_the_rim(self):
        self.assertEqual(pieces_of(table_of("#.#")), [[(0, 0)], [(0, 2)]])
        self.assertEqual(pieces_of(table_of("#..", "...", "#..")), [[(0, 0)], [(2, 0)]])
        self.assertEqual(pieces_of(table_of("..#", "#..")), [[(0, 2)], [(1, 0)]])

    def test_the_order_is_that_of_first_cells(self):
        table = table_of("...#", ".#.#", "##.#", ".#.#")
        self.assertEqual([cells[0] for cells in pieces_of(table)], [(0, 3), (1, 1)])

    def test_rings(self):
        self.assertEqual([len(cells) for cells in pieces_of(RINGS)], [32, 16, 1])
        self.assertEqual([cells[0] for cells in pieces_of(RINGS)], [(0, 0), (2, 2), (4, 4)])

    def test_of_all_yes_and_all_no(self):
        for rows, columns in ((1, 1), (1, 10), (10, 1), (4, 3), (10, 10)):
            cells = [(r, c) for r in range(rows) for c in range(columns)]
            self.assertEqual(pieces_of(plain.filled_table(rows, columns, 1)), [cells])
            self.assertEqual(pieces_of(plain.filled_table(rows, columns, 0)), [])

    def test_against_the_plain_search(self):
        for table in plain.sample_tables() + [RINGS]:
            self.assertEqual(pieces_of(table), search_together(plain.yes_cells(table), side_by_side), table)


class Holes(unittest.TestCase):
    def test_by_hand(self):
        table = table_of("#####", "#.#.#", "###.#", "#####")
        self.assertEqual(holes_of(table), [[(1, 1)], [(1, 3), (2, 3)]])

    def test_corner_to_corner_is_one_hole(self):
        table = table_of("####", "#.##", "##.#", "####")
        self.assertEqual(holes_of(table), [[(1, 1), (2, 2)]])
        table = table_of("####", "##.#", "#.##", "####")
        self.assertEqual(holes_of(table), [[(1, 2), (2, 1)]])

    def test_hanging_together_with_the_rim_is_in_none(self):
        for rows in (("####", "#..#", "##.#", "##.#"), ("###.", "##.#", "#.##", "####"), (".###", "#.##", "####"),
                     ("####", "...#", "####"), ("####", "##..", "####"), ("#.##", "#.##", "####")):
            self.assertEqual(holes_of(table_of(*rows)), [], rows)

    def test_beside_a_hole_there_may_be_noes_at_the_rim(self):
        table = table_of(".#####", "###.##", "#.###.", "######")
        self.assertEqual(holes_of(table), [[(1, 3)], [(2, 1)]])
        table = table_of("..###", "#####", "##.##", "#####", "###..")
        self.assertEqual(holes_of(table), [[(2, 2)]])

    def test_without_rows_or_columns_off_the_rim(self):
        for rows, columns in ((1, 1), (1, 10), (2, 10), (10, 2), (10, 1), (2, 2)):
            for cell in (0, 1):
                self.assertEqual(holes_of(plain.filled_table(rows, columns, cell)), [])

    def test_rings(self):
        self.assertEqual([len(cells) for cells in holes_of(RINGS)], [24, 8])
        self.assertEqual([cells[0] for cells in holes_of(RINGS)], [(1, 1), (3, 3)])
        opposite = tuple(tuple(1 - cell for cell in row) for row in RINGS)
        self.assertEqual([cells[0] for cells in holes_of(opposite)], [(2, 2), (4, 4)])

    def test_against_the_plain_search(self):
        for table in plain.sample_tables() + [RINGS]:
            self.assertEqual(holes_of(table), search_holes(table), table)
            padded = ((1,) * 10, *((1,) + row[:8] + (1,) * (9 - len(row[:8])) for row in table[:8]), (1,) * 10)
            self.assertEqual(holes_of(padded), search_holes(padded), padded)


if __name__ == "__main__":
    unittest.main()
