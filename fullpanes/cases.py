"""Trees of cases, by which anyone sees that no full box is greater.

A full box of a part holds none of its noes, so it lies above, left of, below
or right of each one: a tree goes over these four smaller parts.
"""

from fullpanes.measures import greatest_boxes, value_of
from fullpanes.tables import cells_with, is_no_in, size_of, whole_of

BARE = ()
SMALL = ("small",)


def cases_tree(table, measure):
    """A tree that shows just the greatest value of a full box."""
    greatest, _ = greatest_boxes(table, measure)
    return _tree_of(table, measure, greatest, whole_of(table))


def cases_shows(table, measure, tree):
    """The value that, by a tree, no full box exceeds; None where it is no tree."""
    return _shown_by(table, measure, whole_of(table), tree)


def _tree_of(table, measure, greatest, part):
    """A tree for a part that shows no more than the greatest value."""
    height, width = size_of(part)
    if height == 0 or width == 0:
        return BARE
    if value_of(measure, height, width) <= greatest:
        return SMALL
    # There is a no, as a full part would have no greater value than the greatest.
    cell = _middle_no(table, part)
    trees = [_tree_of(table, measure, greatest, beside) for beside in _parts_beside(part, cell)]
    return ("no", cell, *trees)


def _shown_by(table, measure, part, tree):
    """What a thing shows as a tree for a part, None where it is no tree for it."""
    height, width = size_of(part)
    if height == 0 or width == 0:
        return 0 if tree == BARE else None
    if tree == SMALL:
        return value_of(measure, height, width)
    if not _begins_with_no(table, part, tree):
        return None
    most = 0
    for beside, inner in zip(_parts_beside(part, tree[1]), tree[2:]):
        shown = _shown_by(table, measure, beside, inner)
        if shown is None:
            return None
        most = max(most, shown)
    return most


def _begins_with_no(table, part, thing):
    """Whether a thing has six parts, the word and a no of the part in front."""
    if not isinstance(thing, tuple) or len(thing) != 6:
        return False
    return thing[0] == "no" and is_no_in(table, part, thing[1])


def _parts_beside(part, cell):
    """What of a part lies above, left of, below and right of a cell."""
    top, left, bottom, right = part
    r, c = cell
    return [(top, left, r, right), (top, left, bottom, c), (r + 1, left, bottom, right), (top, c + 1, bottom, right)]


def _middle_no(table, part):
    """The no of a part that is nearest to its middle, so that the tree stays small."""
    top, left, bottom, right = part
    noes = cells_with(table, part, 0)
    return min(noes, key=lambda cell: abs(2 * cell[0] + 1 - top - bottom) + abs(2 * cell[1] + 1 - left - right))
