"""Stage 3: 3.4, 3.5, with 0.2, 0.3 and 0.6 as far as they speak of it."""

import copy
import random
import unittest
from functools import lru_cache

from fullpanes.papers import greatest_paper, paper_right, window_paper, window_right
from tests import plain

VAST = plain.VAST
TABLE = ((1, 0, 1), (1, 1, 0))
FAR_SIZES = [(11, 1), (1, 11), (11, 11), (VAST, 1), (1, VAST), (VAST, VAST), (10 ** 59, 5)]


@lru_cache(maxsize=None)
def noes_of_windows(table, height, width):
    """For each window of a size, rising, the noes that it holds."""
    noes = {(r, c) for r, row in enumerate(table) for c, cell in enumerate(row) if cell == 0}
    return [sorted(plain.box_cells(window) & noes) for window in plain.search_windows(table, height, width)]


def search_paper(table, height, width):
    noes = noes_of_windows(table, height, width)
    return [cells[0] for cells in noes] if all(noes) else None


def judge_window(table, height, width, paper):
    if height < 1 or width < 1:
        return False
    noes = noes_of_windows(table, height, width)
    return len(paper) == len(noes) and all(cell in cells for cell, cells in zip(paper, noes))


def judge_paper(table, measure, value, paper):
    if not all(judge_window(table, height, width, cells) for height, width, cells in paper):
        return False
    greater = [size for size in plain.sizes_in(table) if plain.plain_value(measure, *size) > value]
    return all(any(plain.is_beyond(size, told) for told in paper) for size in greater)


def other_cells(table, cell):
    """Cells to put in place of one: all of the table, and what lies beyond it on each side."""
    rows, columns = len(table), len(table[0])
    r, c = cell
    inside = [(i, j) for i in range(rows) for j in range(columns)]
    return inside + [
        (-1, c), (r, -1), (r - rows, c), (r, c - columns), (r - rows, c - columns), (rows, c), (r, columns),
        (r + rows, c), (VAST, c), (r, VAST), (VAST, VAST), (-VAST, c), (r, -VAST), (-VAST, -VAST),
    ]


def spoilt_lists(things):
    """A list with a thing left out, one twice, two exchanged; right or not is not said."""
    spoilt = []
    for k in range(len(things)):
        spoilt.append(things[:k] + things[k + 1:])
        spoilt.append(things[:k] + [things[k]] + things[k:])
        for j in range(k):
            exchanged = list(things)
            exchanged[j], exchanged[k] = things[k], things[j]
            spoilt.append(exchanged)
    return spoilt


def spoilt_windows(table, paper):
    spoilt = spoilt_lists(paper)
    for k, cell in enumerate(paper):
        spoilt.extend(paper[:k] + [other] + paper[k + 1:] for other in other_cells(table, cell))
    return spoilt + [paper + [(0, 0)], [(0, 0)] + paper, paper + paper + [(0, 0)], []]


def frozen(paper):
    """The same paper of tuples in place of lists."""
    return tuple((height, width, tuple(cells)) for height, width, cells in paper)


class WindowPaper(unittest.TestCase):
    def test_by_hand(self):
        self.assertEqual(window_paper(TABLE, 2, 2), [(0, 1), (0, 1)])
        self.assertEqual(window_paper(TABLE, 1, 3), [(0, 1), (1, 2)])
        self.assertEqual(window_paper(TABLE, 2, 3), [(0, 1)])
        self.assertIsNone(window_paper(TABLE, 1, 1))
        self.assertIsNone(window_paper(TABLE, 2, 1))

    def test_against_the_plain_search(self):
        for table in plain.sample_tables():
            for height, width in plain.sizes_in(table):
                told = window_paper(table, height, width)
                self.assertEqual(told, search_paper(table, height, width), (table, height, width))

    def test_none_just_where_some_window_is_full(self):
        for table in plain.mixed_tables():
            sizes = {plain.height_and_width(box) for box in plain.search_full(table)}
            for size in plain.sizes_in(table):
                self.assertEqual(window_paper(table, *size) is None, size in sizes)

    def test_beyond_the_table(self):
        for table in (TABLE, ((1,),), plain.filled_table(10, 10, 1), plain.filled_table(3, 7, 0)):
            sizes = [(len(table) + 1, 1), (1, len(table[0]) + 1), (len(table) + 1, len(table[0]) + 1)]
            for height, width in sizes + FAR_SIZES:
                self.assertEqual(window_paper(table, height, width), [])


class WindowRight(unittest.TestCase):
    def check(self, table, height, width, paper):
        right = judge_window(table, height, width, paper)
        self.assertIs(window_right(table, height, width, paper), right, (table, height, width, paper))
        self.assertIs(window_right(table, height, width, tuple(paper)), right)
        return right

    def test_what_is_told_is_right(self):
        for table in plain.sample_tables():
            for height, width in plain.sizes_in(table):
                paper = window_paper(table, height, width)
                if paper is not None:
                    self.assertIs(window_right(table, height, width, paper), True)
                    self.assertIs(window_right(table, height, width, tuple(paper)), True)

    def test_what_is_told_spoilt(self):
        verdicts = []
        for table in plain.small_tables()[::5] + plain.mixed_tables()[4:24:3]:
            for height, width in plain.sizes_in(table)[::2]:
                paper = window_paper(table, height, width)
                if paper is not None and len(paper) <= 12:
                    verdicts.extend(self.check(table, height, width, one) for one in spoilt_windows(table, paper))
        self.assertIn(True, verdicts)
        self.assertIn(False, verdicts)

    def test_by_hand(self):
        self.assertIs(window_right(TABLE, 1, 3, [(0, 1), (1, 2)]), True)
        self.assertIs(window_right(TABLE, 2, 3, [(1, 2)]), True)
        self.assertIs(window_right(TABLE, 2, 2, [(0, 1), (1, 2)]), True)
        wrong = [
            [], [(0, 1)], [(1, 2)], [(1, 2), (0, 1)], [(0, 1), (0, 1)], [(0, 1), (1, 1)], [(0, 1), (1, 2), (1, 2)],
            [(0, 1), (1, -1)], [(0, 1), (-1, 2)], [(0, 1), (-1, -1)], [(0, 1), (1, 3)], [(0, 1), (2, 2)],
            [(0, 1), (1, VAST)], [(-VAST, 1), (1, 2)], [(0, -2), (1, 2)], [(-2, 1), (1, 2)],
        ]
        for paper in wrong:
            self.assertIs(window_right(TABLE, 1, 3, paper), False, paper)
            self.assertIs(window_right(TABLE, 1, 3, tuple(paper)), False, paper)

    def test_no_paper_where_a_window_is_full(self):
        for cells in ([(0, 1)] * 6, [(0, 1)], [], [(0, 0), (0, 1), (0, 2), (1, 0), (1, 1), (1, 2)]):
            self.assertIs(window_right(TABLE, 1, 1, cells), False)

    def test_beyond_the_table(self):
        for table in (TABLE, plain.filled_table(10, 10, 0)):
            for height, width in FAR_SIZES:
                for paper in ([], [(0, 1)], [(0, 1), (1, 2)], [(VAST, VAST)]):
                    self.check(table, height, width, paper)
                self.assertIs(window_right(table, height, width, []), True)
                self.assertIs(window_right(table, height, width, [(0, 1)]), False)

    def test_nothing_is_changed(self):
        paper = [(0, 1), (1, 2)]
        window_right(TABLE, 1, 3, paper)
        self.assertEqual(paper, [(0, 1), (1, 2)])


class GreatestPaper(unittest.TestCase):
    def search(self, table, measure):
        value, _ = plain.search_greatest(table, measure)
        sizes = [size for size in plain.sizes_in(table) if plain.plain_value(measure, *size) > value]
        least = [size for size in sizes if not any(plain.is_beyond(size, one) for one in sizes if one != size)]
        return [(*size, search_paper(table, *size)) for size in least]

    def test_by_hand(self):
        self.assertEqual(greatest_paper(TABLE, ("area",)), [(1, 3, [(0, 1), (1, 2)]), (2, 2, [(0, 1), (0, 1)])])
        self.assertEqual(greatest_paper(TABLE, ("square",)), [(2, 2, [(0, 1), (0, 1)])])
        self.assertEqual(greatest_paper(TABLE, ("weights", 1, 0)), [])
        self.assertEqual(greatest_paper(TABLE, ("weights", 0, 1)), [(1, 3, [(0, 1), (1, 2)])])

    def test_without_yes(self):
        for rows, columns in ((1, 1), (1, 10), (3, 2), (10, 10)):
            table = plain.filled_table(rows, columns, 0)
            cells = [(r, c) for r in range(rows) for c in range(columns)]
            for measure in plain.MEASURES:
                told = [] if measure == ("weights", 0, 0) else [(1, 1, cells)]
                self.assertEqual(greatest_paper(table, measure), told)

    def test_of_all_yes(self):
        for rows, columns in ((1, 1), (1, 10), (3, 2), (10, 10)):
            for measure in plain.MEASURES:
                self.assertEqual(greatest_paper(plain.filled_table(rows, columns, 1), measure), [])

    def test_against_the_plain_search(self):
        for table in plain.sample_tables():
            for measure in plain.MEASURES:
                self.assertEqual(greatest_paper(table, measure), self.search(table, measure), (table, measure))

    def test_its_sizes_rise_and_none_is_beyond_another_one(self):
        for table in plain.mixed_tables():
            for measure in plain.MEASURES:
                sizes = [(height, width) for height, width, _ in greatest_paper(table, measure)]
                self.assertEqual(sizes, sorted(set(sizes)))
                for one in sizes:
                    self.assertFalse(any(plain.is_beyond(one, other) for other in sizes if other != one))


class PaperRight(unittest.TestCase):
    def check(self, table, measure, value, paper):
        right = judge_paper(table, measure, value, paper)
        self.assertIs(paper_right(table, measure, value, paper), right, (table, measure, value, paper))
        self.assertIs(paper_right(table, measure, value, frozen(paper)), right)
        return right

    def test_what_is_told_is_right_of_the_greatest_value(self):
        for table in plain.sample_tables():
            for measure in plain.MEASURES:
                value, _ = plain.search_greatest(table, measure)
                paper = greatest_paper(table, measure)
                self.assertIs(paper_right(table, measure, value, paper), True)
                self.assertIs(paper_right(table, measure, value, frozen(paper)), True)

    def test_values_below_at_and_above(self):
        for table in plain.small_tables()[::3] + plain.mixed_tables() + plain.great_tables():
            for measure in plain.MEASURES:
                value, boxes = plain.search_greatest(table, measure)
                paper = greatest_paper(table, measure)
                for near in (-VAST, -1, 0, 1, value - 1, value, value + 1, value + 5, VAST):
                    right = self.check(table, measure, near, paper)
                    # A greater full box, where there is one, is never hidden.
                    self.assertFalse(right and boxes and near < value)

    def test_by_hand(self):
        one, other = (1, 3, [(0, 1), (1, 2)]), (2, 2, [(0, 1), (1, 2)])
        area = ("area",)
        self.assertIs(paper_right(TABLE, area, 2, [one, other]), True)
        self.assertIs(paper_right(TABLE, area, 2, [other, one]), True)
        self.assertIs(paper_right(TABLE, area, 2, [other, one, other]), True)
        self.assertIs(paper_right(TABLE, area, 2, [one]), False)
        self.assertIs(paper_right(TABLE, area, 2, [other]), False)
        self.assertIs(paper_right(TABLE, area, 3, [other]), True)
        self.assertIs(paper_right(TABLE, area, 3, [one]), False)
        self.assertIs(paper_right(TABLE, area, 6, []), True)
        self.assertIs(paper_right(TABLE, area, 5, []), False)
        self.assertIs(paper_right(TABLE, area, 5, [(2, 3, [(1, 2)])]), True)
        self.assertIs(paper_right(TABLE, area, 1, [one, other]), False)
        self.assertIs(paper_right(TABLE, area, 2, [one, other, (5, 5, [])]), True)
        self.assertIs(paper_right(TABLE, area, 2, [one, other, (5, 5, [(0, 1)])]), False)
        self.assertIs(paper_right(TABLE, area, 6, [(1, 1, [(0, 1)] * 6)]), False)

    def test_sizes_below_1_are_none(self):
        for table in (TABLE, ((0,),), plain.filled_table(2, 2, 0)):
            told = greatest_paper(table, ("area",))
            value, _ = plain.search_greatest(table, ("area",))
            for height, width in ((0, 1), (1, 0), (0, 0), (-1, 1), (1, -1), (-VAST, 1), (0, VAST), (-1, VAST),
                                  (VAST, 0), (VAST, -1)):
                for cells in ([], [(0, 0)], [(0, 1)], [(0, 0)] * 2, [(0, 0)] * 3, [(0, 1)] * 9):
                    for paper in ([(height, width, cells)], told + [(height, width, cells)]):
                        self.assertIs(paper_right(table, ("area",), value, paper), False)
                        self.assertIs(paper_right(table, ("area",), VAST, paper), False)

    def test_what_is_told_with_sizes_left_out_twice_or_exchanged(self):
        for table in plain.mixed_tables()[::3] + plain.great_tables():
            for measure in plain.MEASURES:
                value, _ = plain.search_greatest(table, measure)
                paper = greatest_paper(table, measure)
                for spoilt in spoilt_lists(paper) + [paper[::-1], paper + [(11, 1, [])], [(VAST, VAST, [])] + paper]:
                    self.check(table, measure, value, spoilt)

    def test_a_size_left_out_shows_less(self):
        for table in plain.mixed_tables():
            value, _ = plain.search_greatest(table, ("area",))
            paper = greatest_paper(table, ("area",))
            for k in range(len(paper)):
                self.assertIs(paper_right(table, ("area",), value, paper[:k] + paper[k + 1:]), False)

    def test_what_is_told_with_a_size_higher_or_wider(self):
        verdicts = []
        for table in plain.mixed_tables()[::2]:
            for measure in plain.MEASURES[:7]:
                value, _ = plain.search_greatest(table, measure)
                paper = greatest_paper(table, measure)
                for k, (height, width, cells) in enumerate(paper):
                    for size in ((height + 1, width), (height, width + 1), (height - 1, width), (height, width - 1)):
                        for inner in (cells, [] if min(size) < 1 else search_paper(table, *size) or []):
                            spoilt = paper[:k] + [(*size, inner)] + paper[k + 1:]
                            for near in (value, value + 1, value + 2):
                                verdicts.append(self.check(table, measure, near, spoilt))
        self.assertIn(True, verdicts)
        self.assertIn(False, verdicts)

    def test_what_is_told_with_cells_spoilt(self):
        dice = random.Random(7)
        verdicts = []
        for table in plain.mixed_tables()[::3]:
            for measure in plain.MEASURES[:7]:
                value, _ = plain.search_greatest(table, measure)
                paper = greatest_paper(table, measure)
                for k, (height, width, cells) in enumerate(paper):
                    ways = spoilt_windows(table, cells)
                    for inner in dice.sample(ways, min(10, len(ways))):
                        spoilt = paper[:k] + [(height, width, inner)] + paper[k + 1:]
                        verdicts.append(self.check(table, measure, value, spoilt))
        self.assertIn(True, verdicts)
        self.assertIn(False, verdicts)

    def test_sizes_beyond_the_table(self):
        for table in (TABLE, ((1,),), plain.filled_table(10, 10, 1)):
            whole = plain.plain_value(("area",), len(table), len(table[0]))
            for height, width in FAR_SIZES:
                self.assertIs(paper_right(table, ("area",), whole, [(height, width, [])]), True)
                self.assertIs(paper_right(table, ("area",), whole - 1, [(height, width, [])]), False)
                self.assertIs(paper_right(table, ("area",), whole, [(height, width, [(0, 0)])]), False)

    def test_no_drawn_paper_hides_a_greater_box(self):
        dice = random.Random(35)
        for table in plain.mixed_tables():
            for measure in plain.MEASURES:
                value, boxes = plain.search_greatest(table, measure)
                sizes = [size for size in plain.sizes_in(table) if search_paper(table, *size) is not None]
                for _ in range(4):
                    drawn = dice.sample(sizes, min(len(sizes), dice.randrange(1, 5)))
                    paper = [(*size, search_paper(table, *size)) for size in drawn]
                    self.assertFalse(boxes and self.check(table, measure, value - 1, paper))

    def test_nothing_is_changed(self):
        paper = [(2, 2, [(0, 1), (1, 2)]), (1, 3, [(0, 1), (1, 2)])]
        before = copy.deepcopy(paper)
        paper_right(TABLE, ("area",), 2, paper)
        self.assertEqual(paper, before)


if __name__ == "__main__":
    unittest.main()
