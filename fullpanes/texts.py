"""Tables and partings written row by row, and read again."""

from fullpanes.errors import BadTable, NoText
from fullpanes.tables import cells_of, made_table, yes_cells

YES = "#"
NO = "."
LETTERS = "abcdefghijklmnopqrstuvwxyzABCDEFGHIJKLMNOPQRSTUVWXYZ"


def row_texts(table):
    """The rows of a table, each written as a text."""
    return ["".join([YES if cell == 1 else NO for cell in row]) for row in table]


def table_text(table):
    """A table written row by row."""
    return "\n".join(row_texts(table))


def parting_text(table, boxes):
    """A parting drawn row by row, each yes cell by the letter of its box."""
    rows = [[NO] * len(row) for row in table]
    for letter, box in zip(LETTERS, sorted(boxes)):
        for r, c in cells_of(box):
            rows[r][c] = letter
    return "\n".join(["".join(row) for row in rows])


def read_table(text):
    """The table that is written so; NoText of anything else."""
    return _table_read(text, YES)


def read_parting(text):
    """The table and the rising boxes of the parting that is drawn so; NoText of anything else."""
    table = _table_read(text, LETTERS)
    cells = _cells_by_letter(table, text)
    boxes = sorted([_box_around(cells[letter]) for letter in cells])
    if sum([len(cells_of(box)) for box in boxes]) != len(yes_cells(table)):
        raise NoText("a letter is not drawn as a box")
    if parting_text(table, boxes) != text:
        raise NoText("the boxes, rising, have the letters a to z and then A to Z")
    return (table, boxes)


def _table_read(text, signs):
    """The table written row by row with some signs for yes; NoText of anything else."""
    if not isinstance(text, str):
        raise NoText("this is no text")
    try:
        return made_table([[_worth_of(sign, signs) for sign in row] for row in text.split("\n")])
    except BadTable:
        raise NoText("the text is not that of a table's rows") from None


def _worth_of(sign, signs):
    """1 of a sign for yes, 0 of that for no, None of another one."""
    if sign in signs:
        return 1
    return 0 if sign == NO else None


def _cells_by_letter(table, text):
    """For each letter of a drawn text the cells that are drawn by it."""
    rows = text.split("\n")
    cells = {}
    for r, c in yes_cells(table):
        cells.setdefault(rows[r][c], []).append((r, c))
    return cells


def _box_around(cells):
    """The least box that holds some cells."""
    rows = [r for r, _ in cells]
    columns = [c for _, c in cells]
    return (min(rows), min(columns), max(rows) + 1, max(columns) + 1)
