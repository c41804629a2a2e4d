"""Full boxes apart: two or three that are the greatest together, and lines between them.

Three boxes or fewer that are apart are cut by a tree, so the greatest are found
by going over the lines that part the table, and those that part these parts.
"""

from fullpanes.errors import NoCount
from fullpanes.tables import full_boxes, is_count, size_of, whole_of, windows_of

MOST_APART = 3
# A line's word with the place, in a box, of the side behind it; two on is the side ahead.
LINES = (("row", 0), ("column", 1))


def cut_tree(boxes):
    """A tree that cuts boxes that are apart, None where there is none."""
    if len(boxes) < 2:
        return ()
    for word, start in LINES:
        for at in [box[start + 2] for box in boxes]:
            ahead = [box for box in boxes if box[start + 2] <= at]
            behind = [box for box in boxes if box[start] >= at]
            if behind and len(ahead) + len(behind) == len(boxes):
                # What cuts all boxes cuts those on one side, too, so no other line need be tried.
                return _tree_over((word, at), cut_tree(ahead), cut_tree(behind))
    return None


def best_apart(table, k):
    """The greatest area of at most k full boxes apart, such boxes, and a tree that cuts them."""
    if not is_count(k, MOST_APART):
        raise NoCount("boxes apart are told of 1, 2 or 3")
    boxes = _greatest_apart(_greatest_boxes(table), whole_of(table), k)
    return (_area_of(boxes), boxes, cut_tree(boxes))


def line_bounds(table):
    """Each line of the table with the greatest areas of full boxes on both its sides."""
    greatest = _greatest_boxes(table)
    lines = _lines_within(whole_of(table))
    return [(line, _area_of(greatest[one]), _area_of(greatest[other])) for line, one, other in lines]


def _tree_over(line, one, other):
    """The tree of a line and the trees on both its sides, None where one is missing."""
    return None if one is None or other is None else (*line, one, other)


def _area_of(boxes):
    """The area that boxes apart have together."""
    area = 0
    for box in boxes:
        height, width = size_of(box)
        area += height * width
    return area


def _lines_within(part):
    """The lines that part a box, each with what lies ahead of it and behind it."""
    top, left, bottom, right = part
    rows = [(("row", r), (top, left, r, right), (r, left, bottom, right)) for r in range(top + 1, bottom)]
    columns = [(("column", c), (top, left, bottom, c), (top, c, bottom, right)) for c in range(left + 1, right)]
    return rows + columns


def _greatest_boxes(table):
    """For each box of the table a list of a greatest full box in it, [] without yes."""
    full = {box: True for box in full_boxes(table)}
    greatest = {}
    for height in range(1, len(table) + 1):
        for width in range(1, len(table[0]) + 1):
            for part in windows_of(table, height, width):
                greatest[part] = [part] if part in full else _greatest_of_smaller(greatest, part)
    return greatest


def _greatest_of_smaller(greatest, part):
    """The greatest of what is known of a part without one row or column at a side."""
    top, left, bottom, right = part
    smaller = [
        (top + 1, left, bottom, right), (top, left + 1, bottom, right),
        (top, left, bottom - 1, right), (top, left, bottom, right - 1),
    ]
    return max([greatest[inner] for inner in smaller if inner in greatest], key=_area_of, default=[])


def _greatest_apart(greatest, part, k):
    """The rising list of at most k full boxes apart in a part, the greatest together."""
    found = greatest[part]
    if k == 1:
        return list(found)
    for _, one, other in _lines_within(part):
        for count in range(1, k):
            boxes = _greatest_apart(greatest, one, count) + _greatest_apart(greatest, other, k - count)
            if _area_of(boxes) > _area_of(found):
                found = boxes
    return sorted(found)
