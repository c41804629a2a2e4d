"""Stage 10: 10.1, 10.2, with 0.2, 0.4 and 0.6 as far as they speak of them."""

import copy
import inspect
import random
import unittest

from fullpanes.errors import BadWorth, NoCell, NothingDone, PaneError
from fullpanes.grown import grown_boxes
from fullpanes.sheet import Sheet
from fullpanes.tables import made_table
from tests import plain

VAST = plain.VAST
TABLE = ((1, 0, 1), (1, 1, 0))
# What is no worth: neither 1 nor 0.
OTHER_WORTHS = [thing for thing in plain.OTHER_THINGS if type(thing) is not int or thing not in (0, 1)] + [
    2, -1, VAST, -VAST, "0", [], [0], [1], (), (0,), (1,), {1: 0}, "#", ".", b"1", ((((1,),),),), (1,) * 200,
]
# What is no number of a row or column of any table.
OTHER_PLACES = [thing for thing in plain.OTHER_THINGS if type(thing) is not int] + [
    -1, -2, -3, 10, 11, VAST, -VAST, 10 ** 59, "0", "2", [], [0], (), (0,), (0, 0), {0: 0}, ((((0,),),),), "a" * 200,
]


def search_change(ahead, behind):
    """What 10.2 tells, of the tables ahead of a deed and behind it."""
    one, other = set(plain.search_grown(ahead)), set(plain.search_grown(behind))
    return sorted(one - other), sorted(other - one)


class Checked(unittest.TestCase):
    def check_refused(self, kind, function, *args):
        with self.assertRaises(PaneError) as caught:
            function(*args)
        self.assertIs(type(caught.exception), kind)

    def check_now(self, sheet, table):
        self.assertEqual(sheet.table_now(), table)
        self.assertEqual(made_table(sheet.table_now()), table)
        self.assertEqual([type(row) for row in sheet.table_now()], [tuple] * len(table))
        self.assertIs(type(sheet.table_now()), tuple)
        self.assertEqual(sheet.grown_now(), plain.search_grown(table))

    def check_told(self, told, ahead, behind):
        self.assertEqual(told, search_change(ahead, behind), (ahead, behind))
        self.assertEqual([type(part) for part in (told, *told)], [tuple, list, list])


class Interface(unittest.TestCase):
    def test_the_class_and_its_methods(self):
        self.assertTrue(inspect.isclass(Sheet))
        self.assertEqual(Sheet.__module__, "fullpanes.sheet")
        for name, count in (("put", 4), ("back", 1), ("table_now", 1), ("grown_now", 1)):
            self.assertIn(name, vars(Sheet))
            self.assertEqual(len(inspect.signature(vars(Sheet)[name]).parameters), count)


class Deeds(Checked):
    def test_a_new_sheet(self):
        for table in plain.small_tables()[::3] + plain.mixed_tables() + plain.wide_tables():
            self.check_now(Sheet(table), table)

    def test_by_hand(self):
        sheet = Sheet(TABLE)
        self.assertEqual(sheet.put(0, 1, 1), ([(0, 0, 2, 1), (0, 2, 1, 3), (1, 0, 2, 2)], [(0, 0, 1, 3), (0, 0, 2, 2)]))
        self.check_now(sheet, ((1, 1, 1), (1, 1, 0)))
        self.assertEqual(sheet.put(0, 1, 1), ([], []))
        self.assertEqual(sheet.put(0, 0, 0), ([(0, 0, 1, 3), (0, 0, 2, 2)], [(0, 1, 1, 3), (0, 1, 2, 2), (1, 0, 2, 2)]))
        self.check_now(sheet, ((0, 1, 1), (1, 1, 0)))
        self.assertEqual(sheet.back(), ([(0, 1, 1, 3), (0, 1, 2, 2), (1, 0, 2, 2)], [(0, 0, 1, 3), (0, 0, 2, 2)]))
        self.assertEqual(sheet.back(), ([], []))
        self.assertEqual(sheet.back(), ([(0, 0, 1, 3), (0, 0, 2, 2)], [(0, 0, 2, 1), (0, 2, 1, 3), (1, 0, 2, 2)]))
        self.check_now(sheet, TABLE)
        self.check_refused(NothingDone, sheet.back)

    def test_each_cell_of_a_table_put_and_taken_back(self):
        for table in plain.small_tables()[::5] + plain.mixed_tables()[::4]:
            sheet = Sheet(table)
            for r in range(len(table)):
                for c in range(len(table[0])):
                    for worth in (0, 1):
                        behind = plain.changed(table, r, c, worth)
                        self.check_told(sheet.put(r, c, worth), table, behind)
                        self.check_now(sheet, behind)
                        self.check_told(sheet.back(), behind, table)
                        self.check_now(sheet, table)
            self.check_refused(NothingDone, sheet.back)

    def test_a_deed_that_changes_nothing_can_be_taken_back(self):
        sheet = Sheet(TABLE)
        for _ in range(3):
            self.assertEqual(sheet.put(0, 0, 1), ([], []))
            self.assertEqual(sheet.put(0, 1, 0), ([], []))
        for _ in range(6):
            self.assertEqual(sheet.back(), ([], []))
            self.check_now(sheet, TABLE)
        self.check_refused(NothingDone, sheet.back)

    def test_a_deed_that_changes_nothing_stands_between_two_that_do(self):
        sheet = Sheet(((0,),))
        sheet.put(0, 0, 1)
        sheet.put(0, 0, 1)
        sheet.put(0, 0, 0)
        for worth in (1, 1, 0):
            sheet.back()
            self.assertEqual(sheet.table_now(), ((worth,),))
        self.check_refused(NothingDone, sheet.back)

    def test_taking_back_is_no_deed(self):
        sheet = Sheet(((0, 0),))
        sheet.put(0, 0, 1)
        sheet.put(0, 1, 1)
        sheet.back()
        sheet.put(0, 1, 0)
        self.assertEqual(sheet.back(), ([], []))
        self.assertEqual(sheet.table_now(), ((1, 0),))
        self.assertEqual(sheet.back(), ([(0, 0, 1, 1)], []))
        self.check_refused(NothingDone, sheet.back)
        self.check_refused(NothingDone, sheet.back)
        self.check_now(sheet, ((0, 0),))

    def test_two_hundred_deeds_taken_back_one_by_one(self):
        dice = random.Random(15)
        for table in (plain.drawn_tables(10, 10, 4)[2], plain.filled_table(4, 5, 1), plain.mixed_tables()[17]):
            sheet = Sheet(table)
            tables = [table]
            for _ in range(200):
                r, c, worth = dice.randrange(len(table)), dice.randrange(len(table[0])), dice.randrange(2)
                tables.append(plain.changed(tables[-1], r, c, worth))
                self.check_told(sheet.put(r, c, worth), *tables[-2:])
            while len(tables) > 1:
                self.assertEqual(sheet.table_now(), tables[-1])
                self.assertEqual(sheet.grown_now(), plain.search_grown(tables[-1]))
                ahead = tables.pop()
                self.check_told(sheet.back(), ahead, tables[-1])
            self.check_now(sheet, table)
            self.check_refused(NothingDone, sheet.back)

    def test_deeds_and_takings_back_mixed(self):
        dice = random.Random(16)
        for table in plain.mixed_tables()[::3] + plain.wide_tables()[3:6]:
            sheet = Sheet(table)
            tables = [table]
            for _ in range(40):
                if dice.randrange(3) == 0 and len(tables) > 1:
                    ahead = tables.pop()
                    self.check_told(sheet.back(), ahead, tables[-1])
                else:
                    r, c, worth = dice.randrange(len(table)), dice.randrange(len(table[0])), dice.randrange(2)
                    tables.append(plain.changed(tables[-1], r, c, worth))
                    self.check_told(sheet.put(r, c, worth), *tables[-2:])
                self.check_now(sheet, tables[-1])
                self.assertEqual(grown_boxes(tables[-1]), sheet.grown_now())

    def test_two_sheets_of_one_table_keep_their_own(self):
        one, other = Sheet(TABLE), Sheet(TABLE)
        one.put(0, 1, 1)
        self.check_now(other, TABLE)
        self.check_refused(NothingDone, other.back)
        other.put(1, 1, 0)
        self.check_now(one, ((1, 1, 1), (1, 1, 0)))
        one.back()
        self.check_now(one, TABLE)
        self.check_now(other, ((1, 0, 1), (1, 0, 0)))


class Refusals(Checked):
    def test_no_cell(self):
        for table in (TABLE, ((1,),), plain.filled_table(10, 10, 1)):
            sheet = Sheet(table)
            rows, columns = len(table), len(table[0])
            places = [(rows, 0), (0, columns), (rows, columns), (-1, 0), (0, -1), (-rows, 0), (0, -columns)]
            for thing in OTHER_PLACES:
                places += [(thing, 0), (0, thing), (thing, thing)]
            for r, c in places:
                for worth in (0, 1):
                    self.check_refused(NoCell, sheet.put, r, c, worth)
            self.check_now(sheet, table)
            self.check_refused(NothingDone, sheet.back)

    def test_rows_and_columns_are_not_taken_for_one_another(self):
        self.check_refused(NoCell, Sheet(TABLE).put, 2, 0, 1)
        self.check_refused(NoCell, Sheet(TABLE).put, 2, 1, 1)
        self.assertEqual(Sheet(TABLE).put(0, 2, 1), ([], []))
        self.check_refused(NoCell, Sheet(plain.turned(TABLE)).put, 0, 2, 1)
        self.assertEqual(Sheet(plain.turned(TABLE)).put(2, 0, 1), ([], []))

    def test_bad_worth(self):
        sheet = Sheet(TABLE)
        for thing in OTHER_WORTHS:
            for r, c in ((0, 0), (0, 1), (1, 2)):
                self.check_refused(BadWorth, sheet.put, r, c, thing)
        self.check_now(sheet, TABLE)
        self.check_refused(NothingDone, sheet.back)

    def test_no_cell_ahead_of_bad_worth(self):
        sheet = Sheet(TABLE)
        for place in OTHER_PLACES[::3]:
            for worth in OTHER_WORTHS[::3]:
                self.check_refused(NoCell, sheet.put, place, 0, worth)
                self.check_refused(NoCell, sheet.put, 0, place, worth)

    def test_what_is_refused_changes_nothing(self):
        sheet = Sheet(TABLE)
        sheet.put(0, 1, 1)
        for args in ((2, 0, 1), (0, 3, 1), (0, 0, 2), (0, 0, None), ("0", 0, 0)):
            self.assertRaises(PaneError, sheet.put, *args)
            self.check_now(sheet, ((1, 1, 1), (1, 1, 0)))
        sheet.back()
        self.check_now(sheet, TABLE)
        self.check_refused(NothingDone, sheet.back)
        self.check_now(sheet, TABLE)
        sheet.put(1, 2, 1)
        self.check_now(sheet, ((1, 0, 1), (1, 1, 1)))

    def test_what_is_refused_is_not_changed(self):
        for thing in ([0], {0: [1]}, [[0, 1], (2,)]):
            before = copy.deepcopy(thing)
            for args in ((thing, 0, 1), (0, thing, 1), (0, 0, thing)):
                self.assertRaises(PaneError, Sheet(TABLE).put, *args)
            self.assertEqual(thing, before)


class OwnLists(Checked):
    def test_lists_that_are_told_are_the_askers_own(self):
        sheet = Sheet(TABLE)
        for told in (sheet.put(0, 1, 1), sheet.put(0, 0, 0), sheet.back(), sheet.back()):
            for part in told:
                part.reverse()
                part.append(None)
        self.check_now(sheet, TABLE)
        told = sheet.grown_now()
        told.clear()
        self.check_now(sheet, TABLE)
        self.assertEqual(sheet.put(1, 1, 0), search_change(TABLE, plain.changed(TABLE, 1, 1, 0)))

    def test_no_two_lists_that_are_told_are_one(self):
        for table in (TABLE, ((0,),), ((1,),)):
            one, other = Sheet(table), Sheet(table)
            told = [*one.put(0, 0, 1), *one.put(0, 0, 1), *one.back(), *one.back(), *other.put(0, 0, 1), one.grown_now()]
            told += [one.grown_now(), other.grown_now(), other.grown_now(), *other.back()]
            self.assertEqual(len({id(part) for part in told}), len(told))

    def test_the_table_that_is_handed_in_stays(self):
        sheet = Sheet(TABLE)
        sheet.put(0, 0, 0)
        sheet.put(0, 1, 1)
        self.assertEqual(TABLE, ((1, 0, 1), (1, 1, 0)))

    def test_what_was_told_ahead_of_a_deed_stays(self):
        sheet = Sheet(TABLE)
        table, grown = sheet.table_now(), sheet.grown_now()
        sheet.put(0, 1, 1)
        self.assertEqual((table, grown), (TABLE, plain.search_grown(TABLE)))


if __name__ == "__main__":
    unittest.main()
