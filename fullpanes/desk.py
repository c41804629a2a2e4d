"""A desk that keeps a sheet and answers rows of words with texts."""

from fullpanes.apart import best_apart
from fullpanes.counts import window_counts
from fullpanes.errors import NoRow, NoSheet, NoSize
from fullpanes.measures import WORDS, greatest_boxes, size_stair
from fullpanes.noes import least_noes
from fullpanes.parting import parting_told
from fullpanes.sheet import Sheet
from fullpanes.tables import is_count, made_table
from fullpanes.texts import NO, YES, row_texts

FIGURES = "0123456789"
MOST_FIGURES = 60
# How many numbers follow each first word that only numbers follow.
NUMBERS = {"put": 3, "back": 0, "show": 0, "grown": 0, "stair": 0, "count": 2, "part": 0, "apart": 1, "few": 2}


def _put(sheet, words):
    r, c, worth = _numbers_of(words)
    return _change_text(sheet.put(r, c, worth))


def _back(sheet, _):
    return _change_text(sheet.back())


def _show(sheet, _):
    return "/".join(row_texts(sheet.table_now()))


def _grown(sheet, _):
    boxes = sheet.grown_now()
    return _counted_text(len(boxes), boxes)


def _best(sheet, words):
    weights = _numbers_of(words[1:])
    value, boxes = greatest_boxes(sheet.table_now(), (words[0], *weights))
    return _counted_text(value, boxes)


def _stair(sheet, _):
    stair = size_stair(sheet.table_now())
    return " ".join([f"{step[0]}x{step[1]}" for step in stair]) if stair else "-"


def _count(sheet, words):
    height, width = _numbers_of(words)
    if height == 0 or width == 0:
        raise NoSize("the numbers of a size are from 1 on")
    counts = window_counts(sheet.table_now())
    return str(counts[height - 1][width - 1]) if _is_size_in(counts, height, width) else "0"


def _part(sheet, _):
    told = parting_told(sheet.table_now())
    return str(len(told[0]))


def _apart(sheet, words):
    told = best_apart(sheet.table_now(), int(words[0]))
    return str(told[0])


def _few(sheet, words):
    height, width = _numbers_of(words)
    noes = least_noes(sheet.table_now())
    if not _is_size_in(noes, height, width):
        raise NoSize("the size is none in the table")
    return str(noes[height - 1][width - 1])


# What answers each row but that of a new table.
ANSWERS = {
    "put": _put, "back": _back, "show": _show, "grown": _grown, "best": _best, "stair": _stair, "count": _count,
    "part": _part, "apart": _apart, "few": _few,
}


class Desk:
    """Keeps a sheet, once there is one, and answers rows."""

    def __init__(self):
        self._sheet = None

    def say(self, row):
        """The answer to a row, a text."""
        words = row.split(" ") if isinstance(row, str) else []
        if not _is_row(words):
            raise NoRow("the desk knows no such row")
        if words[0] == "table":
            self._sheet = Sheet(made_table([[1 if sign == YES else 0 for sign in word] for word in words[1:]]))
            return "ok"
        if self._sheet is None:
            raise NoSheet("there is no sheet yet")
        answer = ANSWERS[words[0]]
        return answer(self._sheet, words[1:])


def _is_row(words):
    """Whether words make a row that the desk knows."""
    if len(words) == 0:
        return False
    first, others = words[0], words[1:]
    if first == "table":
        return len(others) > 0 and all([_is_table_row(word) for word in others])
    if first == "best":
        return _is_measure(others)
    return first in NUMBERS and _are_numbers(others, NUMBERS[first])


def _is_table_row(word):
    return len(word) > 0 and all([sign in (YES, NO) for sign in word])


def _is_measure(words):
    if len(words) == 1:
        return words[0] in WORDS
    return len(words) == 3 and words[0] == "weights" and _are_numbers(words[1:], 2)


def _are_numbers(words, count):
    """Whether words are so many numbers."""
    return len(words) == count and all([_is_number(word) for word in words])


def _is_number(word):
    """Whether a word is a number by at most sixty figures, the first no 0 but of 0 itself."""
    if not 1 <= len(word) <= MOST_FIGURES or not all([sign in FIGURES for sign in word]):
        return False
    return word == "0" or word[0] != "0"


def _numbers_of(words):
    return [int(word) for word in words]


def _is_size_in(rows, height, width):
    """Whether rows of numbers, told by heights and widths, have one for a size."""
    return is_count(height, len(rows)) and is_count(width, len(rows[0]))


def _box_texts(boxes):
    return [",".join([str(part) for part in box]) for box in boxes]


def _counted_text(value, boxes):
    """A value and boxes."""
    return " ".join([str(value)] + _box_texts(boxes))


def _change_text(change):
    """The boxes that went and those that came."""
    gone, come = change
    return " ".join(["-"] + _box_texts(gone) + ["+"] + _box_texts(come))
