"""Stage 6: 6.1, 6.4, with 0.2, 0.3, 0.5 and 0.6 as far as they speak of them."""

import copy
import random
import unittest
from itertools import combinations, product

from fullpanes.parting import parting_bound, parting_right, parting_told
from tests import plain

VAST = plain.VAST
CROSS = ((0, 1, 0), (1, 1, 1), (0, 1, 0))
TEE = ((1, 1, 1), (0, 1, 0))


def fewest_parts(table):
    """The fewest boxes of a parting, by going through all of them."""
    full = plain.search_full(table)
    known = {frozenset(): 0}

    def fewest(bare):
        if bare not in known:
            first = min(bare)
            # The box that holds the first bare cell has it as its first one.
            fits = [plain.box_cells(box) for box in full if box[:2] == first and plain.box_cells(box) <= bare]
            known[bare] = 1 + min(fewest(bare - cells) for cells in fits)
        return known[bare]

    return fewest(frozenset(plain.yes_cells(table)))


def is_parting(table, boxes):
    full = plain.search_full(table)
    if not all(tuple(box) in full for box in boxes):
        return False
    held = [cell for box in boxes for cell in plain.box_cells(tuple(box))]
    return len(held) == len(set(held)) and set(held) == plain.yes_cells(table)


def is_flat(chord):
    return chord[0] == chord[2]


def judge_bound(table, pairs):
    """What 6.4 says of a list of pairs."""
    chords = plain.search_chords(table)
    paired = [chord for pair in pairs for chord in pair]
    if any(chord not in chords for chord in paired) or any(paired.count(chord) > 1 for chord in paired):
        return None
    if not all(is_flat(one) and not is_flat(other) and plain.search_meet(one, other) for one, other in pairs):
        return None
    out, crossed, turned_in = plain.reckon_corners(table)
    four = len(out) + 2 * len(crossed) + 3 * len(turned_in)
    assert four % 4 == 0
    return four // 4 - len(chords) + len(pairs)


def judge_right(table, boxes, pairs):
    rising = [list(things) == sorted(set(things)) for things in (boxes, pairs)]
    return all(rising) and is_parting(table, boxes) and judge_bound(table, pairs) == len(boxes)


def in_parts(box):
    """The ways to part a box in two."""
    top, left, bottom, right = box
    ways = [[(top, left, r, right), (r, left, bottom, right)] for r in range(top + 1, bottom)]
    return ways + [[(top, left, bottom, c), (top, c, bottom, right)] for c in range(left + 1, right)]


def spoilt_boxes(box):
    """A box with each number one more and one less, moved, and far."""
    spoilt = [box[:k] + (box[k] + step,) + box[k + 1:] for k in range(4) for step in (-1, 1)]
    spoilt += [(box[0] + r, box[1] + c, box[2] + r, box[3] + c) for r, c in ((0, 1), (1, 0), (0, -1), (-1, 0), (10, 10))]
    spoilt += [box[:k] + (far,) + box[k + 1:] for k in range(4) for far in (VAST, -VAST)]
    return spoilt + [(VAST,) * 4, (-VAST, -VAST, VAST, VAST), (0, 0, 0, 0), box[2:] + box[:2]]


def spoilt_partings(boxes):
    """The boxes of a parting with one thing otherwise."""
    spoilt = [boxes[::-1], boxes + boxes, []]
    for k, box in enumerate(boxes):
        others = boxes[:k] + boxes[k + 1:]
        spoilt += [others, boxes[:k] + [box] + boxes[k:], boxes + [box], others + [box], [box] + others]
        spoilt += [sorted(others + parts) for parts in in_parts(box)]
        spoilt += [sorted(others + [other]) for other in spoilt_boxes(box)]
        spoilt += [boxes[:k] + [other] + boxes[k + 1:] for other in spoilt_boxes(box)]
    return spoilt


def drawn_pairs(table, dice):
    """Pairs of chords that meet, no chord in two, drawn one after the other."""
    meeting = [(one, other) for one, other in product(plain.search_chords(table), repeat=2)
               if is_flat(one) and not is_flat(other) and plain.search_meet(one, other)]
    dice.shuffle(meeting)
    pairs = []
    for pair in meeting:
        if not any(set(pair) & set(other) for other in pairs):
            pairs.append(pair)
    return pairs[:dice.randrange(len(pairs) + 1)]


class PartingTold(unittest.TestCase):
    def check_told(self, table):
        told = parting_told(table)
        boxes, pairs = told
        self.assertEqual([type(part) for part in (told, boxes, pairs)], [tuple, list, list])
        self.assertEqual([type(box) for box in boxes], [tuple] * len(boxes))
        self.assertTrue(is_parting(table, boxes), (table, told))
        self.assertEqual(boxes, sorted(set(boxes)))
        self.assertEqual(pairs, sorted(set(pairs)))
        self.assertEqual(judge_bound(table, pairs), len(boxes), (table, told))
        self.assertEqual(parting_bound(table, pairs), len(boxes))
        self.assertIs(parting_right(table, told), True)
        return told

    def test_by_hand(self):
        self.assertEqual(self.check_told(((1, 1), (1, 1))), ([(0, 0, 2, 2)], []))
        self.assertEqual(self.check_told(((1, 0), (0, 1))), ([(0, 0, 1, 1), (1, 1, 2, 2)], []))
        self.assertEqual(self.check_told(TEE), ([(0, 0, 1, 3), (1, 1, 2, 2)], []))
        boxes, pairs = self.check_told(CROSS)
        self.assertEqual((len(boxes), len(pairs)), (3, 2))
        self.assertEqual(len(self.check_told(((1, 1, 1), (1, 0, 1), (1, 1, 1)))[0]), 4)
        self.assertEqual(len(self.check_told(((1, 1), (1, 0)))[0]), 2)

    def test_of_one_cell_all_yes_and_all_no(self):
        for rows, columns in ((1, 1), (1, 10), (10, 1), (4, 5), (10, 10)):
            self.assertEqual(self.check_told(plain.filled_table(rows, columns, 1)), ([(0, 0, rows, columns)], []))
            self.assertEqual(self.check_told(plain.filled_table(rows, columns, 0)), ([], []))

    def test_none_has_fewer_of_all_small_tables(self):
        for table in plain.small_tables():
            self.assertEqual(len(self.check_told(table)[0]), fewest_parts(table), table)

    def test_none_has_fewer_of_tables_of_three_by_three_and_more(self):
        for cells in product((0, 1), repeat=9):
            table = (cells[:3], cells[3:6], cells[6:])
            self.assertEqual(len(self.check_told(table)[0]), fewest_parts(table), table)
        for rows, columns in ((3, 5), (5, 3), (4, 4)):
            for seed in range(8):
                for table in plain.drawn_tables(rows, columns, seed):
                    self.assertEqual(len(self.check_told(table)[0]), fewest_parts(table), table)

    def test_none_has_fewer_of_tables_with_many_chords(self):
        tables = [plain.lone_noes(rows, columns) for rows, columns in ((3, 3), (3, 5), (5, 3), (5, 5))]
        tables += [plain.made_by(5, 5, lambda r, c: 1 <= r < 4 or 1 <= c < 4), CROSS, TEE]
        tables += [plain.made_by(4, 4, lambda r, c: (r, c) not in ((0, 0), (1, 3), (3, 1)))]
        for table in tables:
            self.assertEqual(len(self.check_told(table)[0]), fewest_parts(table), table)

    def test_of_noes_alone_in_every_second_row_and_column(self):
        for high, wide in ((1, 1), (1, 4), (4, 1), (2, 2), (2, 3), (3, 4), (4, 4)):
            boxes, _ = self.check_told(plain.lone_noes(2 * high + 1, 2 * wide + 1))
            self.assertEqual(len(boxes), high * wide + 3)

    def test_of_checkers(self):
        for table in plain.checkers():
            boxes, pairs = self.check_told(table)
            self.assertEqual((len(boxes), pairs), (50, []))

    def test_of_mixed_and_of_wide_tables(self):
        for table in plain.mixed_tables() + plain.wide_tables():
            self.check_told(table)
        for seed in range(20):
            for table in plain.drawn_tables(10, 10, 100 + seed):
                self.check_told(table)

    def test_turned_about_and_mirrored_as_many(self):
        for table in plain.mixed_tables() + plain.wide_tables() + plain.small_tables()[::5]:
            count = len(parting_told(table)[0])
            for other in (plain.turned(table), plain.mirrored(table), plain.turned(plain.mirrored(table))):
                self.assertEqual(len(self.check_told(other)[0]), count, table)


class PartingBound(unittest.TestCase):
    def check(self, table, pairs):
        shown = judge_bound(table, pairs)
        self.assertEqual(parting_bound(table, pairs), shown, (table, pairs))
        self.assertEqual(parting_bound(table, tuple(pairs)), shown)
        self.assertIn(type(parting_bound(table, pairs)), (int, type(None)))
        return shown

    def test_by_hand(self):
        top, left, right, bottom = (1, 1, 1, 2), (1, 1, 2, 1), (1, 2, 2, 2), (2, 1, 2, 2)
        self.assertEqual(self.check(CROSS, []), 1)
        self.assertEqual(self.check(CROSS, [(top, left)]), 2)
        self.assertEqual(self.check(CROSS, [(bottom, right)]), 2)
        self.assertEqual(self.check(CROSS, [(top, left), (bottom, right)]), 3)
        self.assertEqual(self.check(CROSS, [(bottom, left), (top, right)]), 3)
        wrong = [
            [(left, top)], [(top, bottom)], [(left, right)], [(top, top)], [(top, left), (top, right)],
            [(top, left), (bottom, left)], [(top, left), (top, left)], [(top, left), (right, bottom)],
            [(top, (1, 1, 3, 1))], [((1, 0, 1, 2), left)], [((1, 1, 1, 1), left)], [(top, (1, 1, 1, 1))],
            [((1, 2, 1, 1), left)], [(top, (2, 1, 1, 1))], [((0, 0, 0, 0), (0, 0, 0, 0))],
        ]
        for pairs in wrong:
            self.assertIsNone(self.check(CROSS, pairs), pairs)

    def test_of_told_pairs_in_any_order_and_of_a_part_of_them(self):
        dice = random.Random(5)
        for table in plain.mixed_tables() + plain.wide_tables() + [CROSS]:
            boxes, pairs = parting_told(table)
            self.check(table, [])
            for _ in range(3):
                dice.shuffle(pairs)
                self.assertEqual(self.check(table, pairs), len(boxes))
                part = pairs[:dice.randrange(len(pairs) + 1)]
                self.assertEqual(self.check(table, part), len(boxes) - len(pairs) + len(part))

    def test_of_drawn_pairs_no_more_than_the_fewest_is_shown(self):
        dice = random.Random(6)
        for table in plain.small_tables()[::9] + plain.mixed_tables() + plain.wide_tables() + [CROSS]:
            for _ in range(3):
                shown = self.check(table, drawn_pairs(table, dice))
                self.assertLessEqual(shown, len(parting_told(table)[0]))

    def test_without_chords_and_without_yes(self):
        chord = (1, 1, 1, 2)
        for table in (((1,),), ((0,),), ((1, 0), (0, 1)), plain.filled_table(10, 10, 0)):
            self.assertEqual(self.check(table, []), len(parting_told(table)[0]))
            self.assertIsNone(self.check(table, [(chord, (1, 1, 2, 1))]))

    def test_none_where_two_chords_do_not_meet(self):
        table = plain.lone_noes(7, 7)
        chords = plain.search_chords(table)
        apart = [(one, other) for one in chords for other in chords
                 if is_flat(one) and not is_flat(other) and not plain.search_meet(one, other)]
        self.assertTrue(apart)
        for pair in apart[::7]:
            self.assertIsNone(self.check(table, [pair]))

    def test_none_where_one_is_no_chord(self):
        for table in (CROSS, plain.lone_noes(5, 5), plain.wide_tables()[-1]):
            pairs = parting_told(table)[1]
            for k, (flat, upright) in enumerate(pairs[:3]):
                for spoilt in [(one, upright) for one in spoilt_boxes(flat)] + [(flat, one) for one in spoilt_boxes(upright)]:
                    self.check(table, pairs[:k] + [spoilt] + pairs[k + 1:])
                for far in ((-1, -1, -1, -1), (VAST, 0, VAST, 1), (1, -VAST, 1, VAST), (-5, 1, -5, 2)):
                    self.assertIsNone(self.check(table, [(far, upright)]))
                    self.assertIsNone(self.check(table, [(flat, far)]))
                    self.assertIsNone(self.check(table, pairs + [(far, far)]))

    def test_none_where_a_pair_is_the_other_way_about_or_a_chord_in_two(self):
        for table in (CROSS, plain.lone_noes(5, 7), plain.wide_tables()[-1]):
            pairs = parting_told(table)[1]
            for k, (flat, upright) in enumerate(pairs):
                self.assertIsNone(self.check(table, pairs[:k] + [(upright, flat)] + pairs[k + 1:]))
                self.assertIsNone(self.check(table, pairs + [(flat, upright)]))
                for other in plain.search_chords(table):
                    self.check(table, pairs + [(flat, other)])
                    self.check(table, pairs + [(other, upright)])


class PartingRight(unittest.TestCase):
    def check(self, table, boxes, pairs):
        right = judge_right(table, boxes, pairs)
        self.assertIs(parting_right(table, (boxes, pairs)), right, (table, boxes, pairs))
        self.assertIs(parting_right(table, (tuple(boxes), tuple(pairs))), right)
        return right

    def test_by_hand(self):
        boxes = [(0, 1, 1, 2), (1, 0, 2, 3), (2, 1, 3, 2)]
        pairs = [((1, 1, 1, 2), (1, 1, 2, 1)), ((2, 1, 2, 2), (1, 2, 2, 2))]
        upright = [(0, 1, 3, 2), (1, 0, 2, 1), (1, 2, 2, 3)]
        self.assertIs(self.check(CROSS, boxes, pairs), True)
        self.assertIs(self.check(CROSS, upright, pairs), True)
        self.assertIs(self.check(CROSS, boxes, pairs[:1]), False)
        self.assertIs(self.check(CROSS, boxes, []), False)
        self.assertIs(self.check(CROSS, boxes, pairs[::-1]), False)
        self.assertIs(self.check(CROSS, boxes[::-1], pairs), False)
        self.assertIs(self.check(CROSS, [(1, 0, 2, 3), (0, 1, 1, 2), (2, 1, 3, 2)], pairs), False)
        self.assertIs(self.check(CROSS, [(0, 1, 3, 2), (1, 0, 2, 3)], pairs[:1]), False)
        self.assertIs(self.check(CROSS, [(0, 0, 3, 3)], []), False)
        self.assertIs(self.check(CROSS, [], []), False)
        self.assertIs(self.check(((0, 0),), [], []), True)
        self.assertIs(self.check(((0, 0),), [(0, 0, 1, 1)], []), False)
        self.assertIs(self.check(((1, 1),), [(0, 0, 1, 2)], []), True)
        self.assertIs(self.check(((1, 1),), [(0, 0, 1, 1), (0, 1, 1, 2)], []), False)

    def test_just_as_many_boxes_that_are_no_parting(self):
        for boxes in ([(0, 0, 1, 1), (0, 1, 1, 2)], [(0, 0, 2, 2), (1, 1, 2, 2)], [(0, 0, 1, 1), (0, 0, 1, 1)],
                      [(0, 0, 1, 1)], [(0, 0, 1, 1), (1, 1, 2, 2), (0, 1, 1, 2)], [(0, 0, 1, 1), (1, 1, 2, 3)]):
            self.assertIs(self.check(((1, 0), (0, 1)), boxes, []), False)
        self.assertIs(self.check(((1, 0), (0, 1)), [(0, 0, 1, 1), (1, 1, 2, 2)], []), True)

    def test_what_is_told_is_right(self):
        for table in plain.sample_tables() + plain.wide_tables():
            boxes, pairs = parting_told(table)
            self.assertIs(parting_right(table, (boxes, pairs)), True)
            self.assertIs(parting_right(table, (tuple(boxes), pairs)), True)
            self.assertIs(parting_right(table, (boxes, tuple(pairs))), True)

    def test_what_is_told_with_boxes_spoilt(self):
        dice = random.Random(8)
        for table in plain.small_tables()[::7] + plain.mixed_tables()[::3] + plain.wide_tables()[::3]:
            boxes, pairs = parting_told(table)
            ways = spoilt_partings(boxes)
            for spoilt in dice.sample(ways, min(60, len(ways))):
                if spoilt != boxes:
                    self.assertIs(self.check(table, spoilt, pairs), False)

    def test_what_is_told_with_pairs_spoilt(self):
        verdicts = []
        for table in plain.mixed_tables()[::3] + plain.wide_tables()[::2] + [CROSS]:
            boxes, pairs = parting_told(table)
            ways = [pairs[:k] + pairs[k + 1:] for k in range(len(pairs))] + [pairs[:k] + pairs[k:k + 1] + pairs[k:]
                                                                             for k in range(len(pairs))]
            ways += [pairs[:k] + [pairs[k][::-1]] + pairs[k + 1:] for k in range(len(pairs))] + [pairs[::-1], pairs]
            verdicts.extend(self.check(table, boxes, one) for one in ways)
        self.assertIn(True, verdicts)
        self.assertIn(False, verdicts)

    def test_other_papers_of_the_same_count_are_right(self):
        dice = random.Random(9)
        table = plain.lone_noes(5, 5)
        boxes, pairs = parting_told(table)
        verdicts = []
        for _ in range(200):
            drawn = sorted(drawn_pairs(table, dice))
            verdicts.append(self.check(table, boxes, drawn))
            self.assertIs(verdicts[-1], len(drawn) == len(pairs))
        self.assertIn(False, verdicts)

    def test_every_choice_of_boxes_of_small_tables(self):
        for table in plain.small_tables()[::11]:
            pairs = parting_told(table)[1]
            full = plain.search_full(table)
            for count in range(4):
                for boxes in combinations(full[:8], count):
                    self.check(table, list(boxes), pairs)

    def test_nothing_is_changed(self):
        told = parting_told(CROSS)
        before = copy.deepcopy(told)
        parting_right(CROSS, told)
        parting_bound(CROSS, told[1])
        self.assertEqual(told, before)


if __name__ == "__main__":
    unittest.main()
