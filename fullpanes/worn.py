"""Tables worn and spread by a size, smoothed and filled; which lies within which."""

from fullpanes.errors import NoMatch, NoSize
from fullpanes.tables import MOST, cells_of, is_count, is_full, yes_cells


def worn_table(table, a, b):
    """The table with a cell for each window of a size: whether it is full."""
    if not is_count(a, len(table)) or not is_count(b, len(table[0])):
        raise NoSize("a table is worn by numbers from 1 to its rows and to its columns")
    return tuple([
        tuple([1 if is_full(table, (r, c, r + a, c + b)) else 0 for c in range(len(table[0]) - b + 1)])
        for r in range(len(table) - a + 1)
    ])


def spread_table(table, a, b):
    """The table in which a window of a size is yes from each yes on."""
    rows, columns = len(table), len(table[0])
    if not is_count(a, MOST - rows + 1) or not is_count(b, MOST - columns + 1):
        raise NoSize("a table is spread by numbers from 1 on, to at most 10 rows and 10 columns")
    cells = [[0] * (columns + b - 1) for _ in range(rows + a - 1)]
    for top, left in yes_cells(table):
        for r, c in cells_of((top, left, top + a, left + b)):
            cells[r][c] = 1
    return tuple([tuple(row) for row in cells])


def smoothed_table(table, a, b):
    """The table of the cells that some full window of a size holds."""
    return spread_table(worn_table(table, a, b), a, b)


def filled_table(table, a, b):
    """The table spread and then worn by a size."""
    return worn_table(spread_table(table, a, b), a, b)


def lies_within(table, other):
    """Whether each yes of the first table is yes in the second."""
    if len(table) != len(other) or len(table[0]) != len(other[0]):
        raise NoMatch("the two tables have unlike counts of rows or columns")
    return all([other[r][c] == 1 for r, c in yes_cells(table)])
