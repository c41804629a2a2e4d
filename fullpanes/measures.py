"""Measures of sizes, the greatest full boxes by them, and the stair of sizes.

A measure is ("area",), ("sides",), ("square",) or ("weights", p, q).
"""

from fullpanes.errors import BadMeasure
from fullpanes.grown import grown_boxes
from fullpanes.tables import full_boxes, is_number, size_of

WORDS = ("area", "sides", "square")


def check_measure(thing):
    """Refuses with BadMeasure what is no measure."""
    if not _is_measure(thing):
        raise BadMeasure("a measure is area, sides, square or weights with two numbers from 0 on")


def _is_measure(thing):
    if not isinstance(thing, tuple) or len(thing) == 0 or not isinstance(thing[0], str):
        return False
    if thing[0] in WORDS:
        return len(thing) == 1
    return thing[0] == "weights" and len(thing) == 3 and all([_is_weight(part) for part in thing[1:]])


def _is_weight(thing):
    return is_number(thing) and thing >= 0


def value_of(measure, height, width):
    """The value of a size by a measure; BadMeasure of anything else."""
    check_measure(measure)
    word = measure[0]
    if word == "area":
        return height * width
    if word == "sides":
        return height + width
    if word == "square":
        return min(height, width)
    return measure[1] * height + measure[2] * width


def greatest_boxes(table, measure):
    """The greatest value of a full box, and the full-grown boxes that have it, rising."""
    check_measure(measure)
    return greatest_among(measure, grown_boxes(table))


def greatest_among(measure, boxes):
    """The greatest value of some boxes, 0 of none, and those that have it."""
    values = [_value_of_box(measure, box) for box in boxes]
    greatest = max(values, default=0)
    return (greatest, [box for box, value in zip(boxes, values) if value == greatest])


def _value_of_box(measure, box):
    height, width = size_of(box)
    return value_of(measure, height, width)


def size_stair(table):
    """The greatest sizes of full boxes, heights rising, each with its least full box."""
    least = _least_boxes(table)
    # A full box holds smaller ones of each size, so one step up or sideways tells of all.
    return [
        (height, width, least[(height, width)])
        for height, width in sorted(least)
        if (height + 1, width) not in least and (height, width + 1) not in least
    ]


def _least_boxes(table):
    """The least full box of each size that there is."""
    least = {}
    for box in full_boxes(table):
        least.setdefault(size_of(box), box)
    return least
