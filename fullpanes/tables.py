"""Tables of yes (1) and no (0), and the boxes in them."""

from fullpanes.errors import BadTable

MOST = 10


def is_number(thing):
    """Whether a thing is a whole number; True and False are none."""
    return isinstance(thing, int) and not isinstance(thing, bool)


def is_count(thing, most):
    """Whether a thing is a number from 1 to the most."""
    return is_number(thing) and 1 <= thing <= most


def is_worth(thing):
    """Whether a thing is what a cell can be: 1 or 0."""
    return is_number(thing) and 0 <= thing <= 1


def is_pair(thing):
    """Whether a thing is a tuple of two numbers, as a cell is."""
    return isinstance(thing, tuple) and len(thing) == 2 and all([is_number(part) for part in thing])


def is_rising(things):
    """Whether things stand in order, none of them twice."""
    return all([one < other for one, other in zip(things, things[1:])])


def made_table(thing):
    """The table of a list or tuple of rows; BadTable where it is none."""
    if not _is_stretch(thing):
        raise BadTable("a table is a list or tuple of 1 to 10 rows")
    for row in thing:
        if not _is_stretch(row):
            raise BadTable("a row is a list or tuple of 1 to 10 cells")
        if len(row) != len(thing[0]):
            raise BadTable("all rows of a table have the same count of cells")
        if not all([is_worth(cell) for cell in row]):
            raise BadTable("a cell is 1 or 0")
    return tuple([tuple(row) for row in thing])


def _is_stretch(thing):
    return isinstance(thing, (list, tuple)) and 1 <= len(thing) <= MOST


def is_box(table, thing):
    """Whether a thing is a box (top, left, bottom, right) of the table."""
    if not isinstance(thing, tuple) or len(thing) != 4:
        return False
    if not all([is_number(part) for part in thing]):
        return False
    top, left, bottom, right = thing
    return 0 <= top < bottom <= len(table) and 0 <= left < right <= len(table[0])


def is_full(table, box):
    """Whether all cells that the box holds are yes."""
    return least_no(table, box) is None


def cells_of(box):
    """The rising list of the cells that the box holds."""
    top, left, bottom, right = box
    return [(r, c) for r in range(top, bottom) for c in range(left, right)]


def holds(box, cell):
    """Whether the box holds a cell."""
    top, left, bottom, right = box
    return top <= cell[0] < bottom and left <= cell[1] < right


def size_of(box):
    """The height and width of the box."""
    top, left, bottom, right = box
    return (bottom - top, right - left)


def whole_of(table):
    """The box that holds all cells of the table."""
    return (0, 0, len(table), len(table[0]))


def boxes_of(table):
    """The rising list of all boxes of the table."""
    return [
        (top, left, bottom, right)
        for top in range(len(table))
        for left in range(len(table[0]))
        for bottom in range(top + 1, len(table) + 1)
        for right in range(left + 1, len(table[0]) + 1)
    ]


def windows_of(table, height, width):
    """The rising list of the table's boxes of a size, none of a size beyond it."""
    return [
        (top, left, top + height, left + width)
        for top in range(len(table) - height + 1)
        for left in range(len(table[0]) - width + 1)
    ]


def cells_with(table, box, worth):
    """The rising list of the cells of a worth, 1 or 0, that the box holds."""
    return [(r, c) for r, c in cells_of(box) if table[r][c] == worth]


def yes_cells(table):
    """The rising list of the table's yes cells."""
    return cells_with(table, whole_of(table), 1)


def least_no(table, box):
    """The least cell of a no that the box holds, or None where it is full."""
    noes = cells_with(table, box, 0)
    return noes[0] if noes else None


def is_no_in(table, box, thing):
    """Whether a thing is a cell of a no that the box holds."""
    return is_pair(thing) and holds(box, thing) and table[thing[0]][thing[1]] == 0


def box_lies_in(box, other):
    """Whether the other box holds all cells of the box."""
    top, left, bottom, right = box
    return other[0] <= top and other[1] <= left and bottom <= other[2] and right <= other[3]


def full_boxes(table):
    """The rising list of all full boxes of the table."""
    found = []
    for top in range(len(table)):
        for left in range(len(table[0])):
            found.extend(_full_from(table, top, left))
    return found


def _full_from(table, top, left):
    """The full boxes that have (top, left) as their first cell, rising."""
    found = []
    reach = len(table[0])
    for bottom in range(top + 1, len(table) + 1):
        # A taller box reaches no further than the one above its last row.
        reach = _yes_end(table[bottom - 1], left, reach)
        found.extend([(top, left, bottom, right) for right in range(left + 1, reach + 1)])
    return found


def _yes_end(row, left, most):
    """The column ahead of which the yeses from left on end, at most `most`."""
    end = left
    while end < most and row[end] == 1:
        end += 1
    return end


def turned_table(table):
    """The table turned about: its columns for rows."""
    return tuple(zip(*table))


def mirrored_table(table):
    """The table with each row the other way about."""
    return tuple([row[::-1] for row in table])


def opposite_table(table):
    """The table with yes for no and no for yes."""
    return tuple([tuple([1 - cell for cell in row]) for row in table])


def turned_box(box):
    """Where the box is when its table is turned about."""
    top, left, bottom, right = box
    return (left, top, right, bottom)


def mirrored_box(table, box):
    """Where the box is when its table is mirrored."""
    top, left, bottom, right = box
    columns = len(table[0])
    return (top, columns - right, bottom, columns - left)
