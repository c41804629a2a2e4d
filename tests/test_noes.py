"""Stage 9: 9.1, 9.2, 9.3, with 0.2, 0.3, 0.4 and 0.6 as far as they speak of them."""

import copy
import random
import unittest
from functools import lru_cache

from fullpanes.errors import BadMeasure, NoCount, PaneError
from fullpanes.grown import grown_boxes
from fullpanes.measures import greatest_boxes
from fullpanes.noes import least_noes, let_greatest, let_grown, let_paper, let_right
from fullpanes.papers import window_paper
from tests import plain

VAST = plain.VAST
TABLE = ((1, 0, 1), (1, 1, 0))
AREA = ("area",)


def count_noes(table):
    return sum(row.count(0) for row in table)


def counts_for(table):
    most = count_noes(table)
    return sorted({0, 1, 2, 3, most - 1, most, most + 1} - {-1}) + [10 ** 59, VAST]


@lru_cache(maxsize=None)
def noes_of_windows(table, height, width):
    """For each window of a size, rising, its noes, rising."""
    noes = {(r, c) for r, row in enumerate(table) for c, cell in enumerate(row) if cell == 0}
    return [sorted(plain.box_cells(window) & noes) for window in plain.search_windows(table, height, width)]


def search_paper(table, height, width, k):
    noes = noes_of_windows(table, height, width)
    return None if any(len(cells) <= k for cells in noes) else [tuple(cells[:k + 1]) for cells in noes]


def judge(table, height, width, k, paper):
    noes = noes_of_windows(table, height, width)
    return len(paper) == len(noes) and all(
        len(cells) == k + 1 and list(cells) == sorted(set(cells)) and set(cells) <= set(held)
        for cells, held in zip(paper, noes)
    )


def spoilt_cells(table, cells):
    """A rising tuple of cells with one thing otherwise."""
    rows, columns = len(table), len(table[0])
    spoilt = [cells[:k] + cells[k + 1:] for k in range(len(cells))] + [cells[::-1], (), cells + cells]
    spoilt += [cells[:k + 1] + cells[k:] for k in range(len(cells))]
    others = [(r, c) for r in range(rows) for c in range(columns)]
    far = [(-1, 0), (0, -1), (rows, 0), (0, columns), (VAST, 0), (0, -VAST), (-VAST, VAST)]
    far += [(r - rows, c) for r, c in cells] + [(r, c - columns) for r, c in cells]
    for other in others + far:
        spoilt.append(tuple(sorted(cells + (other,))))
        spoilt += [cells[:k] + (other,) + cells[k + 1:] for k in range(len(cells))]
        spoilt += [tuple(sorted(cells[:k] + (other,) + cells[k + 1:])) for k in range(len(cells))]
    for k in range(1, len(cells)):
        turned = list(cells)
        turned[k - 1], turned[k] = cells[k], cells[k - 1]
        spoilt.append(tuple(turned))
    return spoilt


def spoilt_papers(table, paper, dice):
    spoilt = [[], paper[::-1], paper + paper[:1], paper[:1] + paper, paper + [()]]
    for k, cells in enumerate(paper):
        spoilt += [paper[:k] + paper[k + 1:], paper[:k + 1] + paper[k:]]
        for j in range(k):
            exchanged = list(paper)
            exchanged[j], exchanged[k] = paper[k], paper[j]
            spoilt.append(exchanged)
        ways = spoilt_cells(table, cells)
        spoilt += [paper[:k] + [one] + paper[k + 1:] for one in dice.sample(ways, min(15, len(ways)))]
    return spoilt


class Checked(unittest.TestCase):
    def check_refused(self, kind, function, *args):
        with self.assertRaises(PaneError) as caught:
            function(*args)
        self.assertIs(type(caught.exception), kind)


class LetGrown(Checked):
    def test_by_hand(self):
        self.assertEqual(let_grown(TABLE, 0), [(0, 0, 2, 1), (0, 2, 1, 3), (1, 0, 2, 2)])
        self.assertEqual(let_grown(TABLE, 1), [(0, 0, 1, 3), (0, 0, 2, 2), (0, 2, 2, 3), (1, 0, 2, 3)])
        self.assertEqual(let_grown(TABLE, 2), [(0, 0, 2, 3)])
        self.assertEqual(let_grown(TABLE, VAST), [(0, 0, 2, 3)])
        self.assertEqual(let_grown(((0,),), 0), [])
        self.assertEqual(let_grown(((0,),), 1), [(0, 0, 1, 1)])

    def test_against_the_plain_search(self):
        for table in plain.small_tables()[::2] + plain.mixed_tables():
            for k in counts_for(table):
                told = let_grown(table, k)
                self.assertEqual(told, plain.search_let_grown(table, k), (table, k))
                self.assertEqual([type(box) for box in told], [tuple] * len(told))

    def test_of_ten_rows_and_ten_columns(self):
        for table in plain.wide_tables():
            for k in (0, 1, 4, count_noes(table)):
                self.assertEqual(let_grown(table, k), plain.search_let_grown(table, k), (table, k))

    def test_of_no_no_it_is_grown_boxes(self):
        for table in plain.sample_tables() + plain.wide_tables():
            self.assertEqual(let_grown(table, 0), grown_boxes(table))

    def test_of_all_noes_and_more_it_is_the_whole_table(self):
        for table in plain.sample_tables():
            for k in (count_noes(table), count_noes(table) + 1, 10 ** 59, VAST):
                self.assertEqual(let_grown(table, k), [(0, 0, len(table), len(table[0]))])

    def test_no_count(self):
        for thing in plain.OTHER_COUNTS:
            for table in (TABLE, ((1,),), plain.filled_table(10, 10, 0)):
                self.check_refused(NoCount, let_grown, table, thing)


class LetGreatest(Checked):
    def search(self, table, measure, k):
        sizes = {plain.height_and_width(box) for box in plain.search_let(table, k)}
        values = {size: plain.plain_value(measure, *size) for size in sizes}
        greatest = max(values.values(), default=0)
        boxes = plain.search_let_grown(table, k)
        return greatest, [box for box in boxes if values[plain.height_and_width(box)] == greatest]

    def test_by_hand(self):
        self.assertEqual(let_greatest(TABLE, AREA, 0), (2, [(0, 0, 2, 1), (1, 0, 2, 2)]))
        self.assertEqual(let_greatest(TABLE, AREA, 1), (4, [(0, 0, 2, 2)]))
        self.assertEqual(let_greatest(TABLE, ("weights", 0, 1), 1), (3, [(0, 0, 1, 3), (1, 0, 2, 3)]))
        self.assertEqual(let_greatest(TABLE, ("square",), 2), (2, [(0, 0, 2, 3)]))

    def test_where_no_box_is_let(self):
        for rows, columns in ((1, 1), (1, 10), (10, 10)):
            table = plain.filled_table(rows, columns, 0)
            for measure in plain.MEASURES:
                self.assertEqual(let_greatest(table, measure, 0), (0, []))
                self.assertEqual(len(let_greatest(table, measure, 1)[1]) > 0, True)

    def test_against_the_plain_search(self):
        for table in plain.small_tables()[::5] + plain.mixed_tables()[::2]:
            for k in counts_for(table):
                for measure in plain.MEASURES:
                    told = let_greatest(table, measure, k)
                    self.assertEqual(told, self.search(table, measure, k), (table, measure, k))
                    self.assertEqual([type(part) for part in (told, *told)], [tuple, int, list])

    def test_of_ten_rows_and_ten_columns(self):
        for table in plain.wide_tables()[::2]:
            for measure in plain.MEASURES[:4]:
                self.assertEqual(let_greatest(table, measure, 0), greatest_boxes(table, measure))
                self.assertEqual(let_greatest(table, measure, 3), self.search(table, measure, 3))

    def test_bad_measure(self):
        for thing in plain.OTHER_MEASURES:
            self.check_refused(BadMeasure, let_greatest, TABLE, thing, 1)

    def test_bad_measure_ahead_of_no_count(self):
        for thing in plain.OTHER_MEASURES[::3]:
            for k in plain.OTHER_COUNTS[::4]:
                self.check_refused(BadMeasure, let_greatest, TABLE, thing, k)

    def test_no_count(self):
        for thing in plain.OTHER_COUNTS:
            for measure in plain.MEASURES:
                self.check_refused(NoCount, let_greatest, TABLE, measure, thing)


class LetPaper(Checked):
    def test_by_hand(self):
        self.assertEqual(let_paper(TABLE, 2, 3, 1), [((0, 1), (1, 2))])
        self.assertEqual(let_paper(TABLE, 2, 3, 0), [((0, 1),)])
        self.assertIsNone(let_paper(TABLE, 2, 3, 2))
        self.assertEqual(let_paper(TABLE, 1, 3, 0), [((0, 1),), ((1, 2),)])
        self.assertIsNone(let_paper(TABLE, 1, 3, 1))
        self.assertEqual(let_paper(TABLE, 3, 3, 5), [])

    def test_against_the_plain_search(self):
        for table in plain.small_tables()[::3] + plain.mixed_tables() + plain.wide_tables()[::3]:
            for height, width in plain.sizes_in(table):
                for k in (0, 1, 4, count_noes(table)):
                    told = let_paper(table, height, width, k)
                    self.assertEqual(told, search_paper(table, height, width, k), (table, height, width, k))

    def test_none_just_where_some_window_is_let(self):
        for table in plain.mixed_tables():
            for k in (0, 2, 5):
                sizes = {plain.height_and_width(box) for box in plain.search_let(table, k)}
                for size in plain.sizes_in(table):
                    self.assertEqual(let_paper(table, *size, k) is None, size in sizes)

    def test_of_no_no_it_is_the_window_paper_with_each_cell_alone(self):
        for table in plain.mixed_tables():
            for size in plain.sizes_in(table):
                paper = window_paper(table, *size)
                self.assertEqual(let_paper(table, *size, 0), None if paper is None else [(cell,) for cell in paper])

    def test_beyond_the_table(self):
        for table in (TABLE, ((1,),), plain.filled_table(10, 10, 0)):
            rows, columns = len(table), len(table[0])
            for height, width in ((rows + 1, 1), (1, columns + 1), (VAST, 1), (1, VAST), (VAST, VAST), (10 ** 59, 11)):
                for k in (0, 1, 100, 10 ** 59, VAST):
                    self.assertEqual(let_paper(table, height, width, k), [])

    def test_none_of_vast_counts(self):
        for table in (TABLE, ((0,),), plain.filled_table(10, 10, 0)):
            for k in (101, 10 ** 59, VAST):
                self.assertIsNone(let_paper(table, 1, 1, k))
                self.assertIsNone(let_paper(table, len(table), len(table[0]), k))

    def test_no_count(self):
        for thing in plain.OTHER_COUNTS:
            for size in ((1, 1), (2, 3), (11, 1), (VAST, VAST)):
                self.check_refused(NoCount, let_paper, TABLE, *size, thing)


class LetRight(Checked):
    def check(self, table, size, k, paper):
        right = judge(table, *size, k, paper)
        self.assertIs(let_right(table, *size, k, paper), right, (table, size, k, paper))
        self.assertIs(let_right(table, *size, k, tuple(paper)), right)
        return right

    def test_by_hand(self):
        self.assertIs(let_right(TABLE, 2, 3, 1, [((0, 1), (1, 2))]), True)
        self.assertIs(let_right(TABLE, 2, 3, 0, [((1, 2),)]), True)
        self.assertIs(let_right(TABLE, 1, 3, 0, [((0, 1),), ((1, 2),)]), True)
        wrong = [
            [], [()], [((0, 1),)], [((1, 2), (0, 1))], [((0, 1), (0, 1))], [((0, 1), (1, 1))], [((0, 0), (1, 2))],
            [((0, 1), (1, 2), (1, 2))], [((0, 1), (1, 2)), ((0, 1), (1, 2))], [((0, 1), (1, 3))], [((0, -2), (1, 2))],
            [((-2, 1), (1, 2))], [((0, 1), (1, -1))], [((0, 1), (2, 2))], [((0, 1), (VAST, 2))], [((-VAST, 1), (1, 2))],
        ]
        for paper in wrong:
            self.assertIs(let_right(TABLE, 2, 3, 1, paper), False, paper)
            self.assertIs(let_right(TABLE, 2, 3, 1, tuple(paper)), False, paper)

    def test_what_is_told_is_right(self):
        for table in plain.small_tables()[::3] + plain.mixed_tables() + plain.wide_tables():
            for size in plain.sizes_in(table):
                for k in (0, 1, 4):
                    paper = let_paper(table, *size, k)
                    if paper is not None:
                        self.assertIs(let_right(table, *size, k, paper), True)
                        self.assertIs(let_right(table, *size, k, tuple(paper)), True)
                        self.assertIs(let_right(table, *size, k + 1, paper), False)

    def test_what_is_told_spoilt(self):
        dice = random.Random(14)
        verdicts = []
        for table in plain.small_tables()[::15] + plain.mixed_tables()[::5]:
            for size in plain.sizes_in(table)[::2]:
                for k in (0, 1, 3):
                    paper = let_paper(table, *size, k)
                    if paper is not None and len(paper) <= 12:
                        verdicts.extend(self.check(table, size, k, one) for one in spoilt_papers(table, paper, dice))
        self.assertIn(True, verdicts)
        self.assertIn(False, verdicts)

    def test_beyond_the_table_and_of_vast_counts(self):
        for size in ((3, 1), (1, 4), (VAST, 1), (1, VAST), (VAST, VAST)):
            for k in (0, 1, VAST):
                self.assertIs(self.check(TABLE, size, k, []), True)
                self.assertIs(self.check(TABLE, size, k, [()]), False)
                self.assertIs(self.check(TABLE, size, k, [((0, 1),)]), False)
        self.assertIs(self.check(TABLE, (2, 3), VAST, [((0, 1), (1, 2))]), False)
        self.assertIs(self.check(TABLE, (2, 3), 10 ** 59, []), False)

    def test_what_is_handed_in_stays(self):
        paper = let_paper(plain.filled_table(3, 3, 0), 2, 2, 1)
        before = copy.deepcopy(paper)
        let_right(plain.filled_table(3, 3, 0), 2, 2, 1, paper)
        self.assertEqual(paper, before)


class LeastNoes(Checked):
    def search(self, table):
        return [[min(plain.noes_in(table, box) for box in plain.search_windows(table, height, width))
                 for width in range(1, len(table[0]) + 1)] for height in range(1, len(table) + 1)]

    def test_by_hand(self):
        self.assertEqual(least_noes(TABLE), [[0, 0, 1], [0, 1, 2]])
        self.assertEqual(least_noes(((0,),)), [[1]])
        self.assertEqual(least_noes(((1,),)), [[0]])
        self.assertEqual(least_noes(((0, 0), (0, 0), (0, 0))), [[1, 2], [2, 4], [3, 6]])

    def test_against_the_plain_search(self):
        for table in plain.sample_tables() + plain.wide_tables():
            told = least_noes(table)
            self.assertEqual(told, self.search(table), table)
            self.assertEqual([type(row) for row in told], [list] * len(told))

    def test_a_size_is_let_just_from_its_least_count_on(self):
        for table in plain.mixed_tables()[::3]:
            told = least_noes(table)
            for height, width in plain.sizes_in(table):
                least = told[height - 1][width - 1]
                self.assertIsNone(let_paper(table, height, width, least))
                if least > 0:
                    self.assertIsNotNone(let_paper(table, height, width, least - 1))


if __name__ == "__main__":
    unittest.main()
