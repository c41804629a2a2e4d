"""Full boxes that can't grow, and how a full box grows to one.

A side is numbered as its place in a box: 0 top, 1 left, 2 bottom, 3 right.
"""

from fullpanes.tables import box_lies_in, full_boxes, is_box, least_no

SIDES = 4
OUTWARD = (-1, -1, 1, 1)
OPPOSITE = (2, 3, 0, 1)


def grown_boxes(table):
    """The rising list of the full boxes that lie in no other full box."""
    return outermost(full_boxes(table))


def outermost(boxes):
    """Those of some boxes, all boxes in each among them, that lie in no other one."""
    known = {box: True for box in boxes}
    # A bigger one around a box holds it with some side moved out, so that is among them, too.
    return [box for box in boxes if not any([_moved_out(box, side) in known for side in range(SIDES)])]


def sides_of(table, box):
    """What stops a full box at its top, left, bottom and right."""
    return tuple([_stop_at(table, box, side) for side in range(SIDES)])


def grown_by(table, box, order):
    """The full-grown box that a full box becomes, its sides moved out in order."""
    grown = box
    for side in order:
        while _stop_at(table, grown, side) is None:
            grown = _moved_out(grown, side)
    return grown


def grown_over(table, box):
    """The rising list of the full-grown boxes in which a full box lies."""
    return [grown for grown in grown_boxes(table) if box_lies_in(box, grown)]


def _stop_at(table, box, side):
    """() at the rim, else the least no right beside the side, else None."""
    strip = _strip_beside(box, side)
    if not is_box(table, strip):
        return ()
    return least_no(table, strip)


def _strip_beside(box, side):
    """The box of the cells right beside a side, beyond the rim at the rim."""
    edges = list(_moved_out(box, side))
    edges[OPPOSITE[side]] = box[side]
    return tuple(edges)


def _moved_out(box, side):
    """The box with one side a row or column further out."""
    edges = list(box)
    edges[side] += OUTWARD[side]
    return tuple(edges)
