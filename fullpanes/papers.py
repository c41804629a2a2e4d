"""Papers by which anyone sees that no full box is greater.

A window paper of a size has a no of each window of that size. A paper for a
measure is a list of tuples (height, width, window paper).
"""

from fullpanes.measures import greatest_boxes, value_of
from fullpanes.tables import is_no_in, least_no, windows_of


def window_paper(table, height, width):
    """The least no of each window of a size, or None where some window is full."""
    cells = [least_no(table, window) for window in windows_of(table, height, width)]
    return None if None in cells else cells


def window_right(table, height, width, paper):
    """Whether a paper has, for each window of the size, a no that it holds."""
    # The judge of whole papers hands on sizes that anyone wrote, also ones below 1.
    if height < 1 or width < 1:
        return False
    windows = windows_of(table, height, width)
    if len(paper) != len(windows):
        return False
    return all([is_no_in(table, window, cell) for window, cell in zip(windows, paper)])


def greatest_paper(table, measure):
    """The paper that no full box is greater than the greatest ones."""
    greatest, _ = greatest_boxes(table, measure)
    sizes = _least_sizes(_greater_sizes(table, measure, greatest))
    return [(height, width, window_paper(table, height, width)) for height, width in sizes]


def paper_right(table, measure, value, paper):
    """Whether a paper shows that no full box has a greater value."""
    for height, width, cells in paper:
        if not window_right(table, height, width, cells):
            return False
    return all([_is_barred(size, paper) for size in _greater_sizes(table, measure, value)])


def _greater_sizes(table, measure, value):
    """The rising list of the sizes in the table that have a greater value."""
    return [
        (height, width)
        for height in range(1, len(table) + 1)
        for width in range(1, len(table[0]) + 1)
        if value_of(measure, height, width) > value
    ]


def _least_sizes(sizes):
    """Those of some sizes that are not as high and as wide as another one of them."""
    # No measure falls where a size grows, so one step back tells of all smaller ones.
    return [
        (height, width)
        for height, width in sizes
        if (height - 1, width) not in sizes and (height, width - 1) not in sizes
    ]


def _is_barred(size, paper):
    """Whether a full box of a size would hold one that the paper shows is none."""
    return any([height <= size[0] and width <= size[1] for height, width, _ in paper])
