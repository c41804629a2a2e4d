"""Stage 11: 11.1, 11.2, with 0.2, 0.3 and 0.4 as far as they speak of them."""

import copy
import random
import unittest

from fullpanes.errors import NoText, PaneError
from fullpanes.parting import parting_told
from fullpanes.texts import parting_text, read_parting, read_table, table_text
from tests import plain

VAST = plain.VAST
SIGNS = [chr(k) for k in range(32, 127)] + ["\t", "\n"]
LETTERS = [chr(ord("a") + k) for k in range(26)] + [chr(ord("A") + k) for k in range(26)]
NO_TEXTS = [thing for thing in plain.OTHER_THINGS if not isinstance(thing, str)] + [
    [], [""], ["#"], ("#",), ["#.", ".#"], [[1]], [(1, 0)], ((1, 0), (0, 1)), ((1,),), b"#", b".", b"a\n.", {"#": 1},
    ("a",), ["a"], [["a"]], (((1,),), [(0, 0, 1, 1)]), VAST, ((((("#",),),),),), ("#",) * 200,
]


def draw(table, boxes):
    """A parting's text, cell by cell."""
    letters = {cell: LETTERS[k] for k, box in enumerate(sorted(boxes)) for cell in plain.box_cells(box)}
    return "\n".join("".join(letters.get((r, c), ".") for c in range(len(table[0]))) for r in range(len(table)))


def judge_table(text):
    """The table of a text, or None, by 11.1."""
    rows = text.split("\n")
    if not 1 <= len(rows) <= 10 or any(len(row) != len(rows[0]) or not 1 <= len(row) <= 10 for row in rows):
        return None
    if set(text) - set("#.\n"):
        return None
    return tuple(tuple(int(sign == "#") for sign in row) for row in rows)


def judge_parting(text):
    """The table and boxes of a text, or None, by 11.2: by all boxes that its letters could be."""
    table = judge_table("".join(sign if sign in ".\n" else "#" if sign in LETTERS else "?" for sign in text))
    if table is None:
        return None
    rows = text.split("\n")
    letters = sorted(set(text) - {".", "\n"}, key=LETTERS.index)
    boxes = []
    for letter in letters:
        cells = {(r, c) for r, row in enumerate(rows) for c, sign in enumerate(row) if sign == letter}
        boxes += [box for box in plain.every_box(table) if plain.box_cells(box) == cells]
    right = len(boxes) == len(letters) and letters == LETTERS[:len(letters)] and boxes == sorted(boxes)
    return (table, boxes) if right else None


def drawn_parting(table, dice):
    """A parting by drawn boxes, in any order; None where it has too many boxes to be drawn."""
    bare = plain.yes_cells(table)
    boxes = []
    while bare:
        first = min(bare)
        fits = [box for box in plain.full_once(table) if box[:2] == first and plain.box_cells(box) <= bare]
        boxes.append(dice.choice(fits))
        bare -= plain.box_cells(boxes[-1])
    dice.shuffle(boxes)
    return boxes if len(boxes) <= 52 else None


def spoilt_texts(text, dice):
    """A text with one thing otherwise: a sign more, fewer, another, exchanged, rows more, fewer, exchanged."""
    spoilt = ["", text + "\n", "\n" + text, text + " ", " " + text, text + "\t", text + "\n" + text, text * 2]
    for k in range(len(text)):
        spoilt += [text[:k] + text[k + 1:], text[:k] + text[k] + text[k:]]
        spoilt += [text[:k] + sign + text[k + 1:] for sign in dice.sample(SIGNS, 6) + ["#", ".", "a", "b", "\n", "\t"]]
        spoilt += [text[:k] + sign + text[k:] for sign in dice.sample(SIGNS, 3) + ["#", ".", "a", "\n"]]
    rows = text.split("\n")
    for k in range(len(rows)):
        spoilt += ["\n".join(rows[:k] + rows[k + 1:]), "\n".join(rows[:k] + [""] + rows[k:])]
        spoilt += ["\n".join(rows[:k] + [rows[k] + sign] + rows[k + 1:]) for sign in ".#a\t "]
        spoilt += ["\n".join(rows[:k] + [rows[k][:-1]] + rows[k + 1:]), "\n".join(rows[:k + 1] + rows[k:])]
    return spoilt


class Checked(unittest.TestCase):
    def check_refused(self, function, thing):
        with self.assertRaises(PaneError) as caught:
            function(thing)
        self.assertIs(type(caught.exception), NoText)

    def check_read(self, function, judge, text):
        told = judge(text)
        if told is None:
            self.check_refused(function, text)
        else:
            self.assertEqual(function(text), told, text)
        return told


class TableText(Checked):
    def test_by_hand(self):
        self.assertEqual(table_text(((1, 0, 1), (1, 1, 0))), "#.#\n##.")
        self.assertEqual(table_text(((1,),)), "#")
        self.assertEqual(table_text(((0,),)), ".")
        self.assertEqual(table_text(((0,), (1,))), ".\n#")

    def test_each_is_read_again(self):
        for table in plain.sample_tables() + plain.wide_tables():
            text = table_text(table)
            self.assertIs(type(text), str)
            self.assertEqual(judge_table(text), table)
            told = read_table(text)
            self.assertEqual(told, table)
            self.assertEqual([type(told)] + [type(row) for row in told], [tuple] * (len(table) + 1))


class ReadTable(Checked):
    def test_by_hand(self):
        self.assertEqual(read_table("#.#\n##."), ((1, 0, 1), (1, 1, 0)))
        self.assertEqual(read_table("#"), ((1,),))
        self.assertEqual(read_table("."), ((0,),))

    def test_each_text_that_is_read_is_written_so(self):
        for table in plain.small_tables():
            text = "\n".join("".join(".#"[cell] for cell in row) for row in table)
            self.assertEqual(table_text(read_table(text)), text)

    def test_no_text_by_hand(self):
        wrong = [
            "", "\n", "\n\n", " ", "#\n", "\n#", "#\n\n#", "##\n#", "#\n##", "#.\n.#\n", "# .", "#\t", "\t", "#\r", "a",
            "#.\n.a", "1", "0", "#0", "#/.", "#,.", "##\n##\n#", "\n#\n", " #", "# ", "#. \n.# ", "true", "..\n..\n..\n",
        ]
        for text in wrong:
            self.check_refused(read_table, text)

    def test_an_eleventh_row_or_sign(self):
        for sign in "#.":
            self.assertEqual(len(read_table("\n".join([sign] * 10))), 10)
            self.assertEqual(len(read_table(sign * 10)[0]), 10)
            self.check_refused(read_table, "\n".join([sign] * 11))
            self.check_refused(read_table, sign * 11)
            self.check_refused(read_table, "\n".join([sign * 10] * 11))
            self.check_refused(read_table, "\n".join([sign * 11] * 10))

    def test_each_other_sign(self):
        for sign in SIGNS:
            for text in (sign, "#" + sign, sign + ".", "##\n#" + sign, "##\n" + sign + "#"):
                self.check_read(read_table, judge_table, text)

    def test_texts_with_one_thing_otherwise(self):
        dice = random.Random(17)
        verdicts = []
        for table in plain.small_tables()[::7] + plain.mixed_tables()[::6]:
            for text in spoilt_texts(table_text(table), dice):
                verdicts.append(self.check_read(read_table, judge_table, text) is None)
        self.assertIn(True, verdicts)
        self.assertIn(False, verdicts)

    def test_what_is_no_text(self):
        for thing in NO_TEXTS:
            self.check_refused(read_table, thing)

    def test_a_drawn_parting_is_no_table(self):
        self.check_refused(read_table, "aa\nb.")


class PartingText(Checked):
    def check_drawn(self, table, boxes):
        text = parting_text(table, boxes)
        self.assertEqual(text, draw(table, boxes))
        self.assertEqual(parting_text(table, tuple(boxes)), text)
        self.assertEqual(parting_text(table, sorted(boxes, reverse=True)), text)
        told = read_parting(text)
        self.assertEqual(told, (table, sorted(boxes)))
        self.assertEqual([type(part) for part in (told, *told)], [tuple, tuple, list])
        self.assertEqual(judge_parting(text), told)

    def test_by_hand(self):
        cross = ((0, 1, 0), (1, 1, 1), (0, 1, 0))
        boxes = [(2, 1, 3, 2), (1, 0, 2, 3), (0, 1, 1, 2)]
        self.assertEqual(parting_text(cross, boxes), ".a.\nbbb\n.c.")
        self.assertEqual(parting_text(cross, [(1, 2, 2, 3), (0, 1, 3, 2), (1, 0, 2, 1)]), ".a.\nbac\n.a.")
        self.assertEqual(parting_text(((0, 0),), []), "..")
        self.assertEqual(parting_text(((1,), (0,)), [(0, 0, 1, 1)]), "a\n.")

    def test_of_told_and_of_drawn_partings(self):
        dice = random.Random(18)
        for table in plain.sample_tables() + plain.wide_tables():
            told = parting_told(table)[0]
            for boxes in [told] + [drawn_parting(table, dice) for _ in range(2)]:
                if boxes is not None and len(boxes) <= 52:
                    self.check_drawn(table, boxes)

    def test_up_to_52_boxes(self):
        for count in (1, 25, 26, 27, 28, 51, 52):
            cells = [(r, c) for r in range(10) for c in range(10)][:count]
            table = plain.made_by(10, 10, lambda r, c: (r, c) in cells)
            self.check_drawn(table, [(r, c, r + 1, c + 1) for r, c in cells])
        row = "abcdefghij\nklmnopqrst\nuvwxyzABCD\nEFGHIJKLMN\nOPQRSTUVWX\nYZ........"
        table = plain.made_by(6, 10, lambda r, c: 10 * r + c < 52)
        self.assertEqual(parting_text(table, [(r, c, r + 1, c + 1) for r, c in plain.yes_cells(table)]), row)

    def test_what_is_handed_in_stays(self):
        boxes = [(1, 0, 2, 2), (0, 0, 1, 2)]
        before = copy.deepcopy(boxes)
        parting_text(((1, 1), (1, 1)), boxes)
        self.assertEqual(boxes, before)


class ReadParting(Checked):
    def test_by_hand(self):
        self.assertEqual(read_parting(".a.\nbbb\n.c."),
                         (((0, 1, 0), (1, 1, 1), (0, 1, 0)), [(0, 1, 1, 2), (1, 0, 2, 3), (2, 1, 3, 2)]))
        self.assertEqual(read_parting("."), (((0,),), []))
        self.assertEqual(read_parting("a"), (((1,),), [(0, 0, 1, 1)]))
        self.assertEqual(read_parting("ab\nab"), (((1, 1), (1, 1)), [(0, 0, 2, 1), (0, 1, 2, 2)]))

    def test_no_text_by_hand(self):
        wrong = [
            "", "\n", "b", "A", "#", "ba", "a.c", "a.a", "aa\na.", "aa\nab", "ab\nba", "aa\nbb\naa", "ab\naa", "a\n\nb",
            "a\n", "\na", "ab\na", "a b", "a\tb", "a1", "b.\n.a", "ac\nbb", "abb\naab", "aab\nabb", ".a.\nbab\n.a.",
            "aba", "aA", "abc\n..d\nee.\n.e.", "zz", "aa aa", "a" * 11, "\n".join("a" * 11), "aaa\na.a\naaa", "aaa\naba\naaa",
            "a/b", "a,b", "ab ", " ab", "0", "1", "a0", "#.", "a#",
        ]
        for text in wrong:
            self.assertIsNone(judge_parting(text))
            self.check_refused(read_parting, text)

    def test_ten_rows_and_ten_columns(self):
        self.assertEqual(read_parting("\n".join(["a" * 10] * 10))[1], [(0, 0, 10, 10)])
        self.assertEqual(read_parting("\n".join(["." * 10] * 10))[1], [])
        self.check_refused(read_parting, "\n".join(["a" * 10] * 11))
        self.check_refused(read_parting, "\n".join(["a" * 11] * 10))
        self.check_refused(read_parting, "\n".join(["." * 10] * 11))

    def test_letters_exchanged_or_left_out(self):
        dice = random.Random(19)
        for table in plain.mixed_tables() + plain.wide_tables():
            boxes = drawn_parting(table, dice)
            if boxes is not None and len(boxes) > 1:
                text = draw(table, boxes)
                one, other = dice.sample(LETTERS[:len(boxes)], 2)
                self.check_refused(read_parting, text.translate(str.maketrans(one + other, other + one)))
                self.check_refused(read_parting, text.replace(one, other))
                self.check_refused(read_parting, text.replace("a", "."))
                self.check_refused(read_parting, text.swapcase())
                self.check_refused(read_parting, text.replace(LETTERS[len(boxes) - 1], LETTERS[len(boxes) % 52]))
                self.check_refused(read_parting, text.replace("a", "#"))

    def test_texts_with_one_thing_otherwise(self):
        dice = random.Random(20)
        verdicts = []
        for table in plain.small_tables()[::5] + plain.mixed_tables()[::6]:
            boxes = drawn_parting(table, dice)
            for text in spoilt_texts(draw(table, boxes), dice):
                verdicts.append(self.check_read(read_parting, judge_parting, text) is None)
        self.assertIn(True, verdicts)
        self.assertIn(False, verdicts)

    def test_each_text_of_few_signs(self):
        texts = [""]
        for _ in range(5):
            texts = [text + sign for text in texts for sign in ("a", "b", "c", ".", "\n")]
            for text in texts:
                self.check_read(read_parting, judge_parting, text)

    def test_what_is_no_text(self):
        for thing in NO_TEXTS:
            self.check_refused(read_parting, thing)

    def test_lists_that_are_told_are_the_askers_own(self):
        for text in ("ab\nab", "..", "a"):
            first = read_parting(text)
            kept = copy.deepcopy(first)
            first[1].append(None)
            self.assertEqual(read_parting(text), kept)
            self.assertIsNot(read_parting(text)[1], read_parting(text)[1])

    def test_what_is_refused_is_not_changed(self):
        for thing in (["#"], {"a": ["#"]}, [["a", "b"], ("c",)]):
            before = copy.deepcopy(thing)
            self.check_refused(read_table, thing)
            self.check_refused(read_parting, thing)
            self.assertEqual(thing, before)


if __name__ == "__main__":
    unittest.main()
