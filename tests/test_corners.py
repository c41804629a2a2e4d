"""Stage 6: 6.2, 6.3, with 0.2 and 0.5 as far as they speak of them."""

import unittest

from fullpanes.corners import chords_meet, chords_of, corners_of
from tests import plain


class Corners(unittest.TestCase):
    def test_by_hand(self):
        table = ((1, 1, 0), (1, 0, 1))
        self.assertEqual(corners_of(table), ([(0, 0), (0, 2), (1, 3), (2, 0), (2, 1), (2, 2), (2, 3)], [(1, 2)], [(1, 1)]))

    def test_each_way_that_yeses_can_lie_around_a_point(self):
        for four in range(16):
            cells = [four >> k & 1 for k in range(4)]
            table = (tuple(cells[:2]), tuple(cells[2:]))
            out, crossed, turned_in = corners_of(table)
            self.assertEqual((1, 1) in out, sum(cells) == 1)
            self.assertEqual((1, 1) in crossed, cells in ([1, 0, 0, 1], [0, 1, 1, 0]))
            self.assertEqual((1, 1) in turned_in, sum(cells) == 3)

    def test_points_at_the_rim(self):
        self.assertEqual(corners_of(((1,),)), ([(0, 0), (0, 1), (1, 0), (1, 1)], [], []))
        self.assertEqual(corners_of(((0,),)), ([], [], []))
        self.assertEqual(corners_of(((1, 0, 1),)), ([(0, c) for c in range(4)] + [(1, c) for c in range(4)], [], []))
        full = plain.filled_table(10, 10, 1)
        self.assertEqual(corners_of(full), ([(0, 0), (0, 10), (10, 0), (10, 10)], [], []))

    def test_noes_of_the_last_row_and_column_are_not_taken_round_the_rim(self):
        table = ((0, 0, 1), (0, 0, 0), (1, 0, 0))
        self.assertEqual(corners_of(table), ([(0, 2), (0, 3), (1, 2), (1, 3), (2, 0), (2, 1), (3, 0), (3, 1)], [], []))

    def test_a_checker_of_ten_by_ten(self):
        for table in plain.checkers():
            out, crossed, turned_in = corners_of(table)
            self.assertEqual(crossed, [(r, c) for r in range(1, 10) for c in range(1, 10)])
            self.assertEqual((len(out), turned_in), (38, []))

    def test_against_the_plain_reckoning(self):
        for table in plain.sample_tables() + plain.wide_tables():
            told = corners_of(table)
            self.assertEqual(told, plain.reckon_corners(table), table)
            self.assertEqual([type(told)] + [type(part) for part in told], [tuple, list, list, list])


class Chords(unittest.TestCase):
    def test_by_hand(self):
        cross = ((0, 1, 0), (1, 1, 1), (0, 1, 0))
        self.assertEqual(chords_of(cross), [(1, 1, 1, 2), (1, 1, 2, 1), (1, 2, 2, 2), (2, 1, 2, 2)])
        tee = ((1, 1, 1), (0, 1, 0))
        self.assertEqual(chords_of(tee), [(1, 1, 1, 2)])
        self.assertEqual(chords_of(((1, 0), (1, 1), (1, 0))), [(1, 1, 2, 1)])

    def test_none_over_a_no(self):
        # Both in points lie in one row, but between them a no is above the line, or below it.
        self.assertEqual(chords_of(((1, 0, 0, 1), (1, 1, 1, 1))), [])
        self.assertEqual(chords_of(((1, 1, 1, 1), (1, 0, 0, 1))), [])
        self.assertEqual(chords_of(((0, 1, 1, 0), (1, 1, 1, 1))), [(1, 1, 1, 3)])

    def test_none_slanting(self):
        table = ((0, 1, 1), (1, 1, 1), (1, 1, 0))
        self.assertEqual(corners_of(table)[2], [(1, 1), (2, 2)])
        self.assertEqual(chords_of(table), [])

    def test_of_all_yes_all_no_and_checkers(self):
        for table in plain.checkers() + [plain.filled_table(10, 10, cell) for cell in (0, 1)] + [((1,),), ((0,),)]:
            self.assertEqual(chords_of(table), [])

    def test_against_the_plain_search(self):
        for table in plain.sample_tables() + plain.wide_tables():
            told = chords_of(table)
            self.assertEqual(told, plain.search_chords(table), table)
            self.assertEqual([type(chord) for chord in told], [tuple] * len(told))


class Meet(unittest.TestCase):
    def check(self, one, other, meet):
        self.assertIs(chords_meet(one, other), meet)
        self.assertIs(chords_meet(other, one), meet)

    def test_in_their_midst(self):
        self.check((2, 1, 2, 5), (1, 3, 4, 3), True)

    def test_at_an_end_of_one_or_of_both(self):
        flat = (2, 1, 2, 5)
        for upright in ((2, 3, 4, 3), (1, 3, 2, 3), (1, 1, 4, 1), (1, 5, 4, 5)):
            self.check(flat, upright, True)
        for upright in ((2, 1, 4, 1), (1, 1, 2, 1), (2, 5, 4, 5), (1, 5, 2, 5)):
            self.check(flat, upright, True)

    def test_just_beside(self):
        for upright in ((3, 3, 4, 3), (0, 3, 1, 3), (1, 6, 4, 6), (1, 0, 4, 0), (3, 1, 4, 1), (0, 5, 1, 5)):
            self.check((2, 1, 2, 5), upright, False)

    def test_two_flat_ones_and_two_upright_ones_never_meet(self):
        self.check((2, 1, 2, 5), (2, 1, 2, 5), False)
        self.check((2, 1, 2, 5), (2, 5, 2, 7), False)
        self.check((2, 1, 2, 5), (2, 3, 2, 7), False)
        self.check((1, 2, 5, 2), (1, 2, 5, 2), False)
        self.check((1, 2, 5, 2), (5, 2, 7, 2), False)
        self.check((1, 1, 1, 2), (3, 1, 3, 2), False)

    def test_against_the_plain_search(self):
        near = range(1, 5)
        chords = [(r, a, r, b) for r in near for a in near for b in near if a < b]
        chords += [(a, c, b, c) for c in near for a in near for b in near if a < b]
        for one in chords:
            for other in chords:
                self.assertIs(chords_meet(one, other), plain.search_meet(one, other), (one, other))

    def test_of_the_chords_of_tables(self):
        met = []
        for table in plain.sample_tables():
            chords = chords_of(table)
            for one in chords:
                for other in chords:
                    met.append(chords_meet(one, other))
                    self.assertIs(met[-1], plain.search_meet(one, other), (one, other))
        self.assertIn(True, met)
        self.assertIn(False, met)


if __name__ == "__main__":
    unittest.main()
