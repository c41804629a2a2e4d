"""The corners of what is yes, and the chords between those where it turns in."""

from itertools import combinations

from fullpanes.tables import is_full


def corners_of(table):
    """The rising lists of the out, the crossed and the in points."""
    out, crossed, turned_in = [], [], []
    for r in range(len(table) + 1):
        for c in range(len(table[0]) + 1):
            before, above, beside, behind = _worths_around(table, r, c)
            count = before + above + beside + behind
            if count == 1:
                out.append((r, c))
            elif count == 2 and before == behind:
                crossed.append((r, c))
            elif count == 3:
                turned_in.append((r, c))
    return (out, crossed, turned_in)


def chords_of(table):
    """The rising list of the chords between in points."""
    points = corners_of(table)[2]
    return [(*one, *other) for one, other in combinations(points, 2) if _is_chord(table, one, other)]


def chords_meet(one, other):
    """Whether of two chords one is flat, the other upright, with a point on both."""
    return _crosses(one, other) or _crosses(other, one)


def _worths_around(table, r, c):
    """The worths of the four cells around a point, row by row."""
    return [_worth_at(table, row, column) for row in (r - 1, r) for column in (c - 1, c)]


def _worth_at(table, r, c):
    """The worth of a cell, that of a no beyond the rim."""
    if 0 <= r < len(table) and 0 <= c < len(table[0]):
        return table[r][c]
    return 0


def _is_chord(table, one, other):
    """Whether two in points, the lesser first, are the ends of a chord."""
    top, left = one
    bottom, right = other
    # In points lie off the rim, so there are cells on both sides.
    if top == bottom:
        return is_full(table, (top - 1, left, top + 1, right))
    if left == right:
        return is_full(table, (top, left - 1, bottom, left + 1))
    return False


def _crosses(flat, upright):
    """Whether the first chord is flat, the second upright, and they meet."""
    row, left, low, right = flat
    top, column, bottom, side = upright
    return row == low and column == side and left <= column <= right and top <= row <= bottom
