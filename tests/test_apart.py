"""Stage 8: 8.1, 8.2, 8.3, with 0.2, 0.4, 0.5 and 0.6 as far as they speak of them."""

import copy
import random
import unittest
from itertools import combinations, permutations

from fullpanes.apart import best_apart, cut_tree, line_bounds
from fullpanes.errors import NoCount, PaneError
from tests import plain

VAST = plain.VAST
CROSS = ((0, 1, 0), (1, 1, 1), (0, 1, 0))
WHEEL = [(0, 0, 1, 2), (0, 2, 2, 3), (1, 0, 3, 1), (2, 1, 3, 3)]
HUB = (1, 1, 2, 2)


def cuts(tree, boxes):
    """Whether a thing is a tree that cuts boxes, as 8.1 says it."""
    if len(boxes) < 2:
        return tree == ()
    if not isinstance(tree, tuple) or len(tree) != 4 or tree[0] not in ("row", "column"):
        return False
    k = ("row", "column").index(tree[0])
    ahead = [box for box in boxes if box[k + 2] <= tree[1]]
    behind = [box for box in boxes if box[k] >= tree[1]]
    if not ahead or not behind or sorted(ahead + behind) != sorted(boxes):
        return False
    return cuts(tree[2], ahead) and cuts(tree[3], behind)


def can_be_cut(boxes):
    """Whether some tree cuts boxes, by trying all lines, each of them to the end."""
    if len(boxes) < 2:
        return True
    for k in (0, 1):
        for at in range(11):
            ahead = [box for box in boxes if box[k + 2] <= at]
            behind = [box for box in boxes if box[k] >= at]
            if ahead and behind and len(ahead + behind) == len(boxes) and can_be_cut(ahead) and can_be_cut(behind):
                return True
    return False


def are_apart(boxes):
    return not any(plain.box_cells(one) & plain.box_cells(other) for one, other in combinations(boxes, 2))


def drawn_apart(dice, count, most):
    """So many boxes that are apart, grown from drawn cells of a table of so many rows and columns."""
    spots = dice.sample([(r, c) for r in range(most) for c in range(most)], count)
    boxes = [(r, c, r + 1, c + 1) for r, c in spots]
    for _ in range(8 * count):
        k, side = dice.randrange(count), dice.randrange(4)
        moved = list(boxes[k])
        moved[side] += (-1, -1, 1, 1)[side]
        if 0 <= moved[side] <= most and are_apart(boxes[:k] + [tuple(moved)] + boxes[k + 1:]):
            boxes[k] = tuple(moved)
    return boxes


def area(box):
    return (box[2] - box[0]) * (box[3] - box[1])


def most_together(table, k):
    """The greatest area of at most k full boxes apart, by all choices."""
    full = plain.search_full(table)
    choices = (some for count in range(k + 1) for some in combinations(full, count))
    return max(sum(map(area, some)) for some in choices if are_apart(some))


def most_of_few(table, k):
    """The same by going on from each box to those behind it, for greater tables."""
    boxes = sorted(plain.search_full(table), key=area, reverse=True)
    cells = [plain.box_cells(box) for box in boxes]
    best = 0

    def go(start, held, sum_of, left):
        nonlocal best
        best = max(best, sum_of)
        for at in range(start, len(boxes) if left else 0):
            if sum_of + left * area(boxes[at]) <= best:
                return
            if not held & cells[at]:
                go(at + 1, held | cells[at], sum_of + area(boxes[at]), left - 1)

    go(0, frozenset(), 0, k)
    return best


def search_bounds(table):
    rows, columns = len(table), len(table[0])
    full = plain.search_full(table)

    def greatest(k, low, high):
        return max((area(box) for box in full if low <= box[k] and box[k + 2] <= high), default=0)

    lines = [(("row", r), greatest(0, 0, r), greatest(0, r, rows)) for r in range(1, rows)]
    return lines + [(("column", c), greatest(1, 0, c), greatest(1, c, columns)) for c in range(1, columns)]


class CutTree(unittest.TestCase):
    def check(self, boxes):
        tree = cut_tree(boxes)
        self.assertEqual(cut_tree(tuple(boxes)) is None, tree is None)
        if can_be_cut(boxes):
            self.assertTrue(cuts(tree, boxes), (boxes, tree))
            self.assertTrue(cuts(cut_tree(tuple(boxes)), boxes))
        else:
            self.assertIsNone(tree, boxes)
        return tree

    def test_of_none_and_one(self):
        self.assertEqual(self.check([]), ())
        for box in [(0, 0, 1, 1), (3, 4, 10, 10), (0, 0, 10, 10)]:
            self.assertEqual(self.check([box]), ())

    def test_of_two(self):
        self.assertEqual(self.check([(0, 0, 1, 1), (0, 1, 1, 2)]), ("column", 1, (), ()))
        self.assertEqual(self.check([(1, 0, 2, 2), (0, 1, 1, 3)]), ("row", 1, (), ()))
        self.assertIn(self.check([(5, 0, 7, 10), (0, 0, 2, 10)]), [("row", r, (), ()) for r in (2, 3, 4, 5)])
        self.assertIn(self.check([(0, 7, 10, 9), (3, 1, 10, 5)]), [("column", c, (), ()) for c in (5, 6, 7)])

    def test_of_one_to_six_drawn_ones(self):
        dice = random.Random(11)
        told = []
        for _ in range(600):
            boxes = drawn_apart(dice, dice.randrange(7), dice.choice((3, 4, 5, 10)))
            told.append((len(boxes), self.check(boxes) is None))
        self.assertEqual({count for count, _ in told}, set(range(7)))
        self.assertIn(True, [none for _, none in told])
        self.assertEqual([none for count, none in told if count < 4 and none], [])

    def test_in_any_order(self):
        for boxes in ([(0, 0, 1, 3), (1, 0, 2, 1), (1, 1, 3, 3)], [(0, 0, 3, 1), (0, 1, 1, 4), (1, 1, 2, 4), (2, 1, 3, 2)]):
            for order in permutations(boxes):
                self.assertIsNotNone(self.check(list(order)))

    def test_a_wheel_about_a_fifth_or_an_empty_place(self):
        mirrored = [(top, 3 - right, bottom, 3 - left) for top, left, bottom, right in WHEEL]
        for wheel in (WHEEL, mirrored):
            for boxes in (wheel, wheel + [HUB]):
                for order in permutations(boxes):
                    self.assertIsNone(self.check(list(order)))
            for left_out in range(4):
                boxes = wheel[:left_out] + wheel[left_out + 1:]
                self.assertIsNotNone(self.check(boxes))
                self.assertIsNotNone(self.check(boxes + [HUB]))

    def test_a_wheel_behind_a_line(self):
        moved = [(top + 2, left, bottom + 2, right) for top, left, bottom, right in WHEEL]
        self.assertIsNone(self.check(moved + [(0, 0, 2, 3)]))
        self.assertIsNone(self.check([(0, 0, 2, 3)] + moved + [(3, 1, 4, 2)]))
        self.assertIsNone(self.check(WHEEL + [(0, 3, 3, 5)]))
        self.assertIsNone(self.check(WHEEL + [(0, 3, 3, 5), HUB]))

    def test_six_in_rows_and_columns(self):
        grid = [(2 * r, 3 * c, 2 * r + 2, 3 * c + 3) for r in range(3) for c in range(2)]
        self.assertIsNotNone(self.check(grid))
        line = [(0, c, 10, c + 1) for c in range(0, 10, 2)]
        self.assertIsNotNone(self.check(line + [(0, 1, 4, 2)]))
        self.assertIsNotNone(self.check([(r, c, r + 1, c + 1) for r, c in zip((0, 3, 2, 5, 9, 7), (4, 4, 1, 2, 9, 0))]))

    def test_what_is_handed_in_stays(self):
        boxes = WHEEL[::-1]
        cut_tree(boxes)
        self.assertEqual(boxes, WHEEL[::-1])


class BestApart(unittest.TestCase):
    def check_told(self, table, k, most):
        told = best_apart(table, k)
        value, boxes, tree = told
        self.assertEqual([type(part) for part in (told, value, boxes, tree)], [tuple, int, list, tuple])
        self.assertEqual(value, most, (table, k, told))
        self.assertEqual(value, sum(map(area, boxes)))
        self.assertLessEqual(len(boxes), k)
        self.assertTrue(set(boxes) <= set(plain.search_full(table)))
        self.assertTrue(are_apart(boxes))
        self.assertEqual(boxes, sorted(set(boxes)))
        self.assertTrue(cuts(tree, boxes), told)
        return told

    def test_by_hand(self):
        self.assertEqual(self.check_told(CROSS, 1, 3)[1] in ([(0, 1, 3, 2)], [(1, 0, 2, 3)]), True)
        self.check_told(CROSS, 2, 4)
        self.assertIn(self.check_told(CROSS, 3, 5)[1], [[(0, 1, 1, 2), (1, 0, 2, 3), (2, 1, 3, 2)],
                                                         [(0, 1, 3, 2), (1, 0, 2, 1), (1, 2, 2, 3)]])
        self.assertEqual(self.check_told(((1, 0, 1),), 2, 2), (2, [(0, 0, 1, 1), (0, 2, 1, 3)], ("column", 1, (), ())))
        self.assertEqual(self.check_told(((1,),), 3, 1), (1, [(0, 0, 1, 1)], ()))

    def test_without_yes(self):
        for rows, columns in ((1, 1), (1, 10), (10, 10)):
            for k in (1, 2, 3):
                self.assertEqual(best_apart(plain.filled_table(rows, columns, 0), k), (0, [], ()))

    def test_of_all_yes(self):
        for rows, columns in ((1, 1), (1, 10), (10, 1), (10, 10)):
            for k in (1, 2, 3):
                table = plain.filled_table(rows, columns, 1)
                most = rows * columns
                value, boxes, tree = best_apart(table, k)
                self.assertEqual((value, sum(map(area, boxes)), cuts(tree, boxes)), (most, most, True))
                self.assertTrue(are_apart(boxes) and len(boxes) <= k)

    def test_against_all_choices_for_small_tables(self):
        for table in plain.small_tables():
            for k in (1, 2, 3):
                self.check_told(table, k, most_together(table, k))

    def test_against_a_search_for_greater_tables(self):
        for table in plain.mixed_tables() + plain.drawn_tables(6, 7, 3) + [plain.lone_noes(7, 9)]:
            for k in (1, 2, 3):
                self.check_told(table, k, most_of_few(table, k))

    def test_of_ten_rows_and_ten_columns(self):
        for table in plain.wide_tables() + plain.drawn_tables(10, 10, 77):
            if len(plain.search_full(table)) < 3000:
                for k in (1, 2, 3):
                    self.check_told(table, k, most_of_few(table, k))

    def test_the_second_and_third_box_lie_on_either_side_of_the_first_line(self):
        # The one line that cuts all three has one box on one side, two on the other.
        for lengths in ((5, 1, 2), (1, 5, 2), (1, 2, 5)):
            cells = []
            for length in lengths:
                cells += [1] * length + [0]
            row = tuple(cells[:-1])
            self.check_told((row,), 3, 8)
            self.check_told((row,), 2, 7)
            self.check_told(plain.turned((row,)), 3, 8)
        tee = plain.made_by(10, 10, lambda r, c: r < 4 or c in (0, 1, 2, 7, 8, 9) and r > 4)
        self.check_told(tee, 3, 70)

    def test_turned_about_and_mirrored_as_much(self):
        for table in plain.mixed_tables()[::2] + plain.wide_tables():
            for k in (1, 2, 3):
                most = best_apart(table, k)[0]
                for other in (plain.turned(table), plain.mirrored(table)):
                    self.check_told(other, k, most)

    def test_no_count(self):
        things = plain.OTHER_THINGS + [
            4, -2, -3, 10, VAST, -VAST, 10 ** 59, "2", "3", [1], [2], (1,), (2, 3), {1: 1}, {"k": 2}, [[1], [2]], ("1",),
            ((((1,),),),), b"\x01", (1,) * 200, "a" * 200,
        ]
        for thing in [thing for thing in things if not (type(thing) is int and thing == 1)]:
            for table in (CROSS, ((0,),), plain.filled_table(10, 10, 1)):
                with self.assertRaises(PaneError) as caught:
                    best_apart(table, thing)
                self.assertIs(type(caught.exception), NoCount)

    def test_what_is_refused_is_not_changed(self):
        for thing in ([1], {1: [2]}, [[1, 2], (3,)]):
            before = copy.deepcopy(thing)
            self.assertRaises(NoCount, best_apart, CROSS, thing)
            self.assertEqual(thing, before)


class LineBounds(unittest.TestCase):
    def test_by_hand(self):
        self.assertEqual(line_bounds(CROSS), [
            (("row", 1), 1, 3), (("row", 2), 3, 1), (("column", 1), 1, 3), (("column", 2), 3, 1),
        ])
        self.assertEqual(line_bounds(((1, 1, 0, 1),)), [(("column", 1), 1, 1), (("column", 2), 2, 1), (("column", 3), 2, 1)])
        self.assertEqual(line_bounds(((0,), (1,))), [(("row", 1), 0, 1)])

    def test_of_one_cell(self):
        for cell in (0, 1):
            self.assertEqual(line_bounds(((cell,),)), [])

    def test_0_where_a_side_has_no_full_box(self):
        self.assertEqual(line_bounds(((0, 0), (0, 1))), [(("row", 1), 0, 1), (("column", 1), 0, 1)])
        self.assertEqual(line_bounds(((1, 0), (0, 0))), [(("row", 1), 1, 0), (("column", 1), 1, 0)])
        told = line_bounds(plain.filled_table(10, 10, 0))
        lines = [("row", r) for r in range(1, 10)] + [("column", c) for c in range(1, 10)]
        self.assertEqual(told, [(line, 0, 0) for line in lines])

    def test_of_all_yes(self):
        told = line_bounds(plain.filled_table(10, 10, 1))
        lines = [("row", r) for r in range(1, 10)] + [("column", c) for c in range(1, 10)]
        self.assertEqual(told, [(line, 10 * line[1], 100 - 10 * line[1]) for line in lines])

    def test_against_the_plain_search(self):
        for table in plain.sample_tables() + plain.wide_tables():
            told = line_bounds(table)
            self.assertEqual(told, search_bounds(table), table)
            self.assertEqual([type(row) for row in told], [tuple] * len(told))

    def test_two_apart_are_the_best_of_the_lines_or_one_box(self):
        for table in plain.mixed_tables():
            sums = [one + other for _, one, other in line_bounds(table)]
            self.assertEqual(best_apart(table, 2)[0], max(sums + [best_apart(table, 1)[0]]))


if __name__ == "__main__":
    unittest.main()
