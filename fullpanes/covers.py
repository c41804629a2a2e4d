"""The fewest full-grown boxes that cover a table, and trees that show that fewer don't.

No full box holds two cells that are sundered, so a cover has a box for each of
these. Where they are too few, a tree goes over the boxes that hold one cell:
each cover has one of them.
"""

from itertools import combinations

from fullpanes.errors import TooMany
from fullpanes.grown import grown_boxes
from fullpanes.tables import holds, is_full, is_pair, is_rising, yes_cells

MOST_BOXES = 12


def are_sundered(table, cells):
    """Whether no full box holds two of some yes cells."""
    rising = sorted(cells)
    return not any([_are_together(table, one, other) for one, other in combinations(rising, 2)])


def cover_shows(table, tree):
    """How many boxes each cover has at least, by a tree; None where it is no tree."""
    return _shown_by(table, grown_boxes(table), yes_cells(table), tree)


def cover_told(table):
    """The fewest full-grown boxes that cover a table, and a tree that shows as many."""
    grown = grown_boxes(table)
    if len(grown) > MOST_BOXES:
        raise TooMany("a table to cover has at most 12 full-grown boxes")
    holders = {cell: _those_over(grown, cell) for cell in yes_cells(table)}
    # The cells that few boxes hold come first, so that searches and trees part little.
    bare = [cell for _, cell in sorted([(len(holders[cell]), cell) for cell in holders])]
    boxes = _fewest_over(holders, bare)
    return (sorted(boxes), _tree_of(table, holders, bare, len(boxes)))


def _are_together(table, one, other):
    """Whether a full box holds two yes cells: the least box that does is full."""
    top, bottom = min(one[0], other[0]), max(one[0], other[0])
    left, right = min(one[1], other[1]), max(one[1], other[1])
    return is_full(table, (top, left, bottom + 1, right + 1))


def _shown_by(table, grown, bare, tree):
    """What a thing shows as a tree for the cells that are bare, None where it is none."""
    if not isinstance(tree, tuple):
        return None
    if len(tree) == 2 and tree[0] == "cells":
        return _shown_by_cells(table, bare, tree[1])
    if len(tree) == 3 and tree[0] == "cell":
        return _shown_by_cell(table, grown, bare, tree)
    return None


def _shown_by_cells(table, bare, cells):
    """The count of cells, None where these aren't bare, rising and sundered."""
    if not isinstance(cells, tuple) or not all([_is_among(bare, cell) for cell in cells]):
        return None
    return len(cells) if is_rising(cells) and are_sundered(table, cells) else None


def _shown_by_cell(table, grown, bare, tree):
    """One more than the least that the trees for the boxes over a bare cell show."""
    _, cell, trees = tree
    if not _is_among(bare, cell) or not isinstance(trees, (list, tuple)):
        return None
    boxes = _those_over(grown, cell)
    if len(trees) != len(boxes):
        return None
    shown = [_shown_by(table, grown, _left_bare(bare, box), inner) for box, inner in zip(boxes, trees)]
    return None if None in shown else 1 + min(shown)


def _is_among(bare, thing):
    return is_pair(thing) and thing in bare


def _those_over(grown, cell):
    """Those of some boxes that hold a cell."""
    return [box for box in grown if holds(box, cell)]


def _left_bare(bare, box):
    """Those of the bare cells that a box doesn't hold."""
    return [cell for cell in bare if not holds(box, cell)]


def _fewest_over(holders, bare):
    """The fewest boxes that hold all bare cells."""
    count = 0
    boxes = _at_most_over(holders, bare, count)
    while boxes is None:
        count += 1
        boxes = _at_most_over(holders, bare, count)
    return boxes


def _at_most_over(holders, bare, count):
    """At most so many boxes that hold all bare cells, None where so few don't."""
    if not bare:
        return []
    if count == 0:
        return None
    for box in holders[bare[0]]:
        others = _at_most_over(holders, _left_bare(bare, box), count - 1)
        if others is not None:
            return [box] + others
    return None


def _tree_of(table, holders, bare, need):
    """A tree for the bare cells that shows what is needed; no fewer boxes hold them."""
    cells = _sundered_among(table, bare)
    if len(cells) >= need:
        return ("cells", tuple(sorted(cells)))
    cell = bare[0]
    trees = [_tree_of(table, holders, _left_bare(bare, box), need - 1) for box in holders[cell]]
    return ("cell", cell, trees)


def _sundered_among(table, bare):
    """Some of the bare cells that are sundered, each that comes first and goes with those taken."""
    taken = []
    for cell in bare:
        if not any([_are_together(table, cell, other) for other in taken]):
            taken.append(cell)
    return taken
