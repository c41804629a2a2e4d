"""How many full boxes there are: of each size, in all, and over each cell."""

from fullpanes.tables import cells_of, full_boxes, size_of


def window_counts(table):
    """For each height a list of, for each width, how many full boxes there are."""
    counts = _zeros_for(table)
    for box in full_boxes(table):
        height, width = size_of(box)
        counts[height - 1][width - 1] += 1
    return counts


def box_count(table):
    """How many full boxes there are in all."""
    return len(full_boxes(table))


def holders(table):
    """For each cell, row by row, how many full boxes hold it."""
    counts = _zeros_for(table)
    for box in full_boxes(table):
        for r, c in cells_of(box):
            counts[r][c] += 1
    return counts


def _zeros_for(table):
    """As many rows of as many zeros as the table has rows and columns."""
    return [[0] * len(row) for row in table]
