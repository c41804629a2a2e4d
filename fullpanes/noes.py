"""Boxes in which some noes are let: those that can't grow, the greatest, and papers.

A let paper of a size and a count k has k + 1 noes of each window of that size.
"""

from fullpanes.errors import NoCount
from fullpanes.grown import outermost
from fullpanes.measures import check_measure, greatest_among
from fullpanes.tables import boxes_of, cells_with, is_no_in, is_number, is_rising, windows_of


def let_grown(table, k):
    """The rising list of the boxes with at most k noes that lie in no other such box."""
    _check_count(k)
    return outermost([box for box in boxes_of(table) if _noes_in(table, box) <= k])


def let_greatest(table, measure, k):
    """The greatest value of a box with at most k noes, and the let-grown ones that have it."""
    check_measure(measure)
    return greatest_among(measure, let_grown(table, k))


def let_paper(table, height, width, k):
    """The least k + 1 noes of each window of a size, or None where some window has fewer."""
    _check_count(k)
    noes = [cells_with(table, window, 0) for window in windows_of(table, height, width)]
    if any([len(cells) <= k for cells in noes]):
        return None
    return [tuple(cells[:k + 1]) for cells in noes]


def let_right(table, height, width, k, paper):
    """Whether a paper has, for each window of the size, k + 1 noes that it holds, rising."""
    windows = windows_of(table, height, width)
    if len(paper) != len(windows):
        return False
    return all([_bars(table, window, k, cells) for window, cells in zip(windows, paper)])


def least_noes(table):
    """For each height a list of, for each width, the least count of noes in a window."""
    return [
        [_least_in(table, height, width) for width in range(1, len(table[0]) + 1)]
        for height in range(1, len(table) + 1)
    ]


def _check_count(thing):
    """Refuses with NoCount what is no number from 0 on."""
    if not is_number(thing) or thing < 0:
        raise NoCount("a count of noes is a number from 0 on")


def _noes_in(table, box):
    """How many noes a box holds."""
    return len(cells_with(table, box, 0))


def _bars(table, window, k, cells):
    """Whether a thing is a rising tuple of just k + 1 noes that a window holds."""
    if not isinstance(cells, tuple) or len(cells) != k + 1:
        return False
    return all([is_no_in(table, window, cell) for cell in cells]) and is_rising(cells)


def _least_in(table, height, width):
    """The least count of noes in a window of a size that is in the table."""
    return min([_noes_in(table, window) for window in windows_of(table, height, width)])
