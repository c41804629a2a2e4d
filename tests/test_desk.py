"""Stage 12: 12.1, 12.2, with 0.2 and 0.4 as far as they speak of them."""

import copy
import inspect
import random
import unittest

from fullpanes import errors
from fullpanes.desk import Desk
from fullpanes.errors import (
    BadTable, BadWorth, NoCell, NoCount, NoRow, NoSheet, NoSize, NothingDone, PaneError,
)
from tests import plain
from tests.test_apart import most_of_few
from tests.test_parting import fewest_parts
from tests.test_sheet import search_change

VAST = plain.VAST
TABLE = ((1, 0, 1), (1, 1, 0))
TABLE_ROW = "table #.# ##."
# One row of each kind but `table`, each of which is taken by a desk with a table of two by three.
ROWS = [
    "put 0 0 1", "back", "show", "grown", "best area", "best sides", "best square", "best weights 1 2", "stair",
    "count 1 1", "part", "apart 1", "few 2 3",
]
NO_ROWS = [thing for thing in plain.OTHER_THINGS if not isinstance(thing, str)] + [
    [], ["show"], ("show",), ["table", "#"], ("put", 0, 0, 1), {"show": 1}, b"show", b"table #", VAST, (("show",),),
    [["table #"]], ("table #",) * 100,
]


def table_row(table):
    return "table " + " ".join("".join("#" if cell else "." for cell in row) for row in table)


def boxes_text(boxes):
    return "".join(f" {top},{left},{bottom},{right}" for top, left, bottom, right in boxes)


def change_text(gone, come):
    return "-" + boxes_text(gone) + " +" + boxes_text(come)


def search_stair(table):
    sizes = {plain.height_and_width(box) for box in plain.search_full(table)}
    steps = [one for one in sorted(sizes) if not any(plain.is_beyond(other, one) for other in sizes if other != one)]
    return " ".join(f"{height}x{width}" for height, width in steps) or "-"


class Checked(unittest.TestCase):
    def check_refused(self, kind, desk, row):
        with self.assertRaises(PaneError, msg=repr(row)) as caught:
            desk.say(row)
        self.assertIs(type(caught.exception), kind, row)

    def check_said(self, desk, row, answer):
        told = desk.say(row)
        self.assertEqual(told, answer, row)
        self.assertIs(type(told), str)

    def desk_with(self, table):
        desk = Desk()
        self.check_said(desk, table_row(table), "ok")
        return desk

    def check_shows(self, desk, table):
        self.check_said(desk, "show", "/".join(table_row(table).split(" ")[1:]))


class Interface(unittest.TestCase):
    def test_the_class_and_its_method(self):
        self.assertTrue(inspect.isclass(Desk))
        self.assertEqual(Desk.__module__, "fullpanes.desk")
        self.assertIn("say", vars(Desk))
        self.assertEqual(len(inspect.signature(Desk.say).parameters), 2)
        self.assertEqual(len(inspect.signature(Desk).parameters), 0)


class Answers(Checked):
    def test_by_hand(self):
        desk = self.desk_with(TABLE)
        for row, answer in [
            ("show", "#.#/##."), ("grown", "3 0,0,2,1 0,2,1,3 1,0,2,2"), ("best area", "2 0,0,2,1 1,0,2,2"),
            ("best sides", "3 0,0,2,1 1,0,2,2"), ("best square", "1 0,0,2,1 0,2,1,3 1,0,2,2"),
            ("best weights 3 1", "7 0,0,2,1"), ("best weights 0 0", "0 0,0,2,1 0,2,1,3 1,0,2,2"), ("stair", "1x2 2x1"),
            ("count 1 1", "4"), ("count 1 2", "1"), ("count 2 2", "0"), ("count 3 1", "0"), ("part", "3"),
            ("apart 1", "2"), ("apart 2", "3"), ("apart 3", "4"), ("few 1 1", "0"), ("few 2 3", "2"), ("few 1 3", "1"),
            ("put 0 1 1", "- 0,0,2,1 0,2,1,3 1,0,2,2 + 0,0,1,3 0,0,2,2"), ("show", "###/##."), ("put 0 1 1", "- +"),
            ("back", "- +"), ("back", "- 0,0,1,3 0,0,2,2 + 0,0,2,1 0,2,1,3 1,0,2,2"), ("show", "#.#/##."),
            ("put 0 2 0", "- 0,2,1,3 +"), ("back", "- + 0,2,1,3"), ("table .", "ok"), ("show", "."),
        ]:
            self.check_said(desk, row, answer)

    def test_the_document_s_own_answer(self):
        self.check_said(self.desk_with(((1, 1), (1, 1))), "grown", "1 0,0,2,2")
        self.check_said(self.desk_with(((1, 1, 0), (0, 0, 1))), "grown", "2 0,0,1,2 1,2,2,3")

    def test_without_yes(self):
        for rows, columns in ((1, 1), (1, 10), (10, 1), (10, 10)):
            desk = self.desk_with(plain.filled_table(rows, columns, 0))
            for row, answer in [
                ("grown", "0"), ("best area", "0"), ("best sides", "0"), ("best square", "0"), ("best weights 5 7", "0"),
                ("stair", "-"), ("count 1 1", "0"), ("part", "0"), ("apart 1", "0"), ("apart 2", "0"), ("apart 3", "0"),
                (f"few {rows} {columns}", str(rows * columns)), ("few 1 1", "1"),
                ("show", "/".join(["." * columns] * rows)), ("put 0 0 0", "- +"), ("back", "- +"),
            ]:
                self.check_said(desk, row, answer)

    def test_of_ten_rows_and_ten_columns_of_yes(self):
        desk = self.desk_with(plain.filled_table(10, 10, 1))
        for row, answer in [
            ("grown", "1 0,0,10,10"), ("best area", "100 0,0,10,10"), ("best sides", "20 0,0,10,10"),
            ("best square", "10 0,0,10,10"), ("stair", "10x10"), ("count 10 10", "1"), ("count 1 1", "100"),
            ("part", "1"), ("apart 3", "100"), ("few 10 10", "0"), ("show", "/".join(["#" * 10] * 10)),
        ]:
            self.check_said(desk, row, answer)

    def test_grown_best_stair_and_counts_against_plain_searches(self):
        for table in plain.small_tables()[::3] + plain.mixed_tables() + plain.wide_tables():
            desk = self.desk_with(table)
            self.check_shows(desk, table)
            grown = plain.search_grown(table)
            self.check_said(desk, "grown", str(len(grown)) + boxes_text(grown))
            for measure in plain.MEASURES:
                value, boxes = plain.search_greatest(table, measure)
                self.check_said(desk, "best " + " ".join(map(str, measure)), str(value) + boxes_text(boxes))
            self.check_said(desk, "stair", search_stair(table))
            sizes = [plain.height_and_width(box) for box in plain.search_full(table)]
            for height, width in ((1, 1), (1, 2), (2, 1), (2, 2), (3, 2), (len(table), len(table[0]))):
                self.check_said(desk, f"count {height} {width}", str(sizes.count((height, width))))

    def test_part_apart_and_few_against_plain_searches(self):
        for table in plain.small_tables()[::4] + plain.mixed_tables()[::3]:
            desk = self.desk_with(table)
            if len(plain.yes_cells(table)) < 25:
                self.check_said(desk, "part", str(fewest_parts(table)))
            for k in (1, 2, 3):
                self.check_said(desk, f"apart {k}", str(most_of_few(table, k)))
            for height, width in plain.sizes_in(table):
                least = min(plain.noes_in(table, box) for box in plain.search_windows(table, height, width))
                self.check_said(desk, f"few {height} {width}", str(least))

    def test_deeds_and_takings_back(self):
        dice = random.Random(21)
        for table in plain.mixed_tables()[::5] + plain.wide_tables()[4:6]:
            desk = self.desk_with(table)
            tables = [table]
            for _ in range(30):
                if dice.randrange(3) == 0 and len(tables) > 1:
                    ahead = tables.pop()
                    self.check_said(desk, "back", change_text(*search_change(ahead, tables[-1])))
                else:
                    r, c, worth = dice.randrange(len(table)), dice.randrange(len(table[0])), dice.randrange(2)
                    tables.append(plain.changed(tables[-1], r, c, worth))
                    self.check_said(desk, f"put {r} {c} {worth}", change_text(*search_change(*tables[-2:])))
                self.check_shows(desk, tables[-1])

    def test_numbers_of_sixty_figures(self):
        desk = self.desk_with(TABLE)
        nines, one = "9" * 60, "1" + "0" * 59
        self.check_said(desk, f"best weights {nines} 0", f"{2 * VAST} 0,0,2,1")
        self.check_said(desk, f"best weights {nines} {nines}", f"{3 * VAST} 0,0,2,1 1,0,2,2")
        self.check_said(desk, f"best weights 0 {one}", f"2{'0' * 59} 1,0,2,2")
        for row in (f"count {nines} 1", f"count 1 {one}", f"count {nines} {nines}"):
            self.check_said(desk, row, "0")
        wide = self.desk_with(plain.filled_table(10, 10, 1))
        self.check_said(wide, f"best weights {nines} {nines}", f"{20 * VAST} 0,0,10,10")

    def test_a_new_table_is_a_new_sheet(self):
        desk = self.desk_with(TABLE)
        desk.say("put 0 0 0")
        self.check_said(desk, "table ## ##", "ok")
        self.check_said(desk, "show", "##/##")
        self.check_refused(NothingDone, desk, "back")
        self.check_said(desk, "put 0 0 0", "- 0,0,2,2 + 0,1,2,2 1,0,2,2")

    def test_two_desks_keep_their_own(self):
        one, other = self.desk_with(TABLE), self.desk_with(((1,),))
        one.say("put 0 1 1")
        self.check_said(other, "show", "#")
        self.check_refused(NothingDone, other, "back")
        self.check_refused(NoSheet, Desk(), "show")
        self.check_said(one, "show", "###/##.")

    def test_the_same_question_has_the_same_answer(self):
        desk = self.desk_with(TABLE)
        for row in ROWS[2:]:
            self.assertEqual(desk.say(row), desk.say(row))


class Refusals(Checked):
    def check_no_rows(self, rows):
        """Refused by a desk without a sheet and by one with it, which stays as it is."""
        desks = [Desk(), self.desk_with(TABLE)]
        for row in rows:
            for desk in desks:
                self.check_refused(NoRow, desk, row)
        self.check_shows(desks[1], TABLE)
        self.check_refused(NothingDone, desks[1], "back")

    def test_other_words(self):
        self.check_no_rows([
            "", "x", "tables #", "Table #", "TABLE #", "tab #", "shows", "Show", "sho", "bests area", "best", "best Area",
            "best areas", "best are", "best weight 1 2", "best weights", "best small", "best 1 2", "best no", "putt 0 0 1",
            "Put 0 0 1", "backs", "undo", "growns", "stairs", "counts 1 1", "parts", "parting", "aparts 1", "fews 1 1",
            "cover", "lines", "0", "1 1", "#", ".", "#.#", "-", "put", "table", "count", "few", "apart", "help", "quit",
        ])

    def test_too_few_and_too_many_words(self):
        rows = [row.rsplit(" ", 1)[0] for row in ROWS if " " in row and row != "best area"]
        rows += [row + more for row in ROWS for more in (" 1", " x", " 1 1", " #", " " + row)]
        self.check_no_rows([row for row in rows if row not in ROWS] + ["best area 1", "best sides 1 2", "best square area"])
        self.check_no_rows(["put 0 0", "put 0", "put 0 0 1 1", "count 1", "count 1 1 1", "few 1", "few 1 1 1", "apart 1 1",
                            "best weights 1", "best weights 1 2 3", "best area area"])

    def test_blanks(self):
        rows = ROWS + [TABLE_ROW, "table #"]
        self.check_no_rows([row.replace(" ", "  ", 1) for row in rows if " " in row])
        self.check_no_rows([row.replace(" ", "  ") for row in rows if " " in row])
        self.check_no_rows([row + " " for row in rows] + [" " + row for row in rows] + [" ", "  ", "   "])
        self.check_no_rows([row.rsplit(" ", 1)[0] + " " for row in rows if " " in row])
        self.check_no_rows(["put 0  1", "put  0 1", "count  1", "few  1", "best weights  1", "best  ", "apart  "])
        self.check_no_rows(["table ", "table  ", "put  0 0 1", "put 0  0 1", "put 0 0  1", "table # ", "table #  #"])

    def test_tabs_and_line_feeds(self):
        rows = ROWS + [TABLE_ROW]
        for sign in ("\t", "\n"):
            self.check_no_rows([row + sign for row in rows] + [sign + row for row in rows])
            self.check_no_rows([row.replace(" ", sign, 1) for row in rows if " " in row])
            self.check_no_rows([row.replace(" ", sign) for row in rows if " " in row])
            self.check_no_rows([row.replace(" ", " " + sign, 1) for row in rows if " " in row])
            self.check_no_rows([sign, "table #" + sign + "#", "put 0 0 1" + sign + "0", "show" + sign + "show"])

    def test_numbers_that_are_none(self):
        words = [
            "00", "01", "007", "-1", "-0", "+1", "1.0", "1e1", "x", "one", "#", ".", "0x1", "1_0", "1,0", "0.", "10a", "a10",
            "True", "None", "'1'", "1" * 61, "9" * 61, "1" + "0" * 60, "0" * 60, "0" * 61, "0" + "1" * 59, "1" * 100, "--1",
        ]
        for word in words:
            self.check_no_rows([
                f"put {word} 0 1", f"put 0 {word} 1", f"put 0 0 {word}", f"count {word} 1", f"count 1 {word}",
                f"few {word} 1", f"few 1 {word}", f"apart {word}", f"best weights {word} 1", f"best weights 1 {word}",
            ])

    def test_table_rows_of_other_signs(self):
        self.check_no_rows([
            "table x", "table #x", "table 1", "table 10 01", "table #0", "table ## #x", "table x# ##", "table #/#", "table -",
            "table ## ,.", "table #a", "table area", "table # 1", "table ## #. #: ..", "table #-.", "table " + "x" * 11,
            "table " + "# " * 11, "table " + "#" * 11 + " x",
        ])

    def test_what_is_no_text(self):
        self.check_no_rows(NO_ROWS)

    def test_no_sheet_of_each_row_but_a_table(self):
        desk = Desk()
        for row in ROWS:
            self.check_refused(NoSheet, desk, row)
        # Whatever the functions would refuse comes behind it.
        for row in ("put 9 9 9", "put 0 0 7", "count 0 0", "count 0 1", "few 0 0", "few 99 1", "apart 0", "apart 4"):
            self.check_refused(NoSheet, desk, row)

    def test_bad_table(self):
        for desk in (Desk(), self.desk_with(TABLE)):
            for row in (
                "table ## #", "table # ##", "table #. ..#", "table ## ## #", "table " + "#" * 11, "table " + "." * 11,
                "table " + " ".join(["#"] * 11), "table " + " ".join(["." * 11] * 10), "table " + " ".join(["#" * 10] * 11),
            ):
                self.check_refused(BadTable, desk, row)
        self.check_refused(NoSheet, desk=Desk(), row="show")

    def test_tables_up_to_ten_by_ten_are_taken(self):
        for rows, columns in ((1, 10), (10, 1), (10, 10)):
            for cell in (0, 1):
                self.desk_with(plain.filled_table(rows, columns, cell))

    def test_a_refused_table_leaves_the_sheet(self):
        desk = self.desk_with(TABLE)
        desk.say("put 0 1 1")
        self.check_refused(BadTable, desk, "table ## #")
        self.check_refused(NoRow, desk, "table ## #x")
        self.check_said(desk, "show", "###/##.")
        self.assertEqual(desk.say("back")[0], "-")
        self.check_shows(desk, TABLE)

    def test_a_refused_first_table_makes_no_sheet(self):
        desk = Desk()
        self.check_refused(BadTable, desk, "table ## #")
        self.check_refused(NoSheet, desk, "show")

    def test_as_the_functions_refuse(self):
        desk = self.desk_with(TABLE)
        nines = "9" * 60
        for row in ("put 2 0 1", "put 0 3 1", "put 2 3 2", f"put {nines} 0 1", f"put 0 {nines} {nines}", "put 10 10 1"):
            self.check_refused(NoCell, desk, row)
        for row in ("put 0 0 2", "put 1 2 9", f"put 0 0 {nines}", "put 0 0 10"):
            self.check_refused(BadWorth, desk, row)
        self.check_refused(NothingDone, desk, "back")
        for row in ("apart 0", "apart 4", f"apart {nines}", "apart 10"):
            self.check_refused(NoCount, desk, row)
        for row in ("few 3 1", "few 1 4", "few 3 4", "few 0 1", "few 1 0", "few 0 0", f"few {nines} 1", f"few 1 {nines}"):
            self.check_refused(NoSize, desk, row)
        for row in ("count 0 1", "count 1 0", "count 0 0", f"count 0 {nines}", f"count {nines} 0", "count 0 9"):
            self.check_refused(NoSize, desk, row)
        self.check_shows(desk, TABLE)
        self.check_refused(NothingDone, desk, "back")

    def test_what_is_refused_changes_nothing(self):
        desk = self.desk_with(TABLE)
        desk.say("put 0 1 1")
        for row in ("put 2 0 1", "put 0 0 2", "few 3 3", "apart 4", "count 0 0", "nothing", "put 0 0 01", None, "back "):
            self.assertRaises(PaneError, desk.say, row)
            self.check_said(desk, "show", "###/##.")
        desk.say("back")
        self.check_shows(desk, TABLE)
        self.check_refused(NothingDone, desk, "back")

    def test_what_is_refused_is_not_changed(self):
        for thing in (["show"], {"show": ["table"]}, [["table"], ("#",)]):
            before = copy.deepcopy(thing)
            self.check_refused(NoRow, Desk(), thing)
            self.assertEqual(thing, before)

    def test_each_refusal_is_made_with_a_text(self):
        desk = self.desk_with(TABLE)
        for refused, row in ((Desk(), "show"), (desk, "x"), (desk, "table # .."), (desk, "put 9 9 1"), (desk, "put 0 0 9"),
                             (desk, "back"), (desk, "apart 9"), (desk, "few 9 9"), (desk, "count 0 1")):
            with self.assertRaises(PaneError) as caught:
                refused.say(row)
            self.assertEqual([type(part) for part in caught.exception.args], [str])
            self.assertEqual(type(caught.exception).__bases__, (errors.PaneError,))


if __name__ == "__main__":
    unittest.main()
