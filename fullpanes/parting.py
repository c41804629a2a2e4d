"""The fewest full boxes into which a table parts, and papers that fewer can't.

At each in point some line between boxes ends. A chord is a line that serves two
of these points at once, so each chord that is drawn spares a box; chords that
are drawn do not meet. Of a pair of chords that meet one at most is drawn, so
pairs show how many are not; the most pairs and the most drawn go together, as
the flat chords meet upright ones alone.
"""

from fullpanes.corners import chords_meet, chords_of, corners_of
from fullpanes.tables import cells_of, is_box, is_full, is_rising, yes_cells


def parting_told(table):
    """The fewest full boxes into which a table parts, and a paper that shows as many."""
    meeting = _meeting_chords(chords_of(table))
    partners = _partners_of(meeting)
    drawn = _drawn_flats(meeting, partners)
    # An upright chord that no drawn flat one meets is drawn as the line from its ends.
    lines = [_line_from(table, point, drawn) for point in corners_of(table)[2]]
    boxes = _boxes_between(table, drawn + lines)
    return (boxes, sorted([(flat, upright) for upright, flat in partners.items()]))


def parting_bound(table, pairs):
    """How many boxes each parting has at least, by a paper; None where it is none."""
    chords = chords_of(table)
    if not _is_paper(chords, pairs):
        return None
    out, crossed, turned_in = corners_of(table)
    return (len(out) + 2 * len(crossed) + 3 * len(turned_in)) // 4 - len(chords) + len(pairs)


def parting_right(table, told):
    """Whether boxes and pairs are a parting and a paper, rising, of the same count."""
    boxes, pairs = told
    if not is_rising(boxes) or not is_rising(pairs) or not _is_parting(table, boxes):
        return False
    return parting_bound(table, pairs) == len(boxes)


def _is_paper(chords, pairs):
    """Whether pairs are a flat and an upright chord that meet, no chord twice."""
    paired = [chord for pair in pairs for chord in pair]
    if len(set(paired)) != len(paired) or not all([chord in chords for chord in paired]):
        return False
    return all([_is_flat(one) and chords_meet(one, other) for one, other in pairs])


def _is_parting(table, boxes):
    """Whether boxes hold each yes cell once, and nothing else."""
    if not all([is_box(table, box) for box in boxes]):
        return False
    return sorted([cell for box in boxes for cell in cells_of(box)]) == yes_cells(table)


def _is_flat(line):
    return line[0] == line[2]


def _meeting_chords(chords):
    """For each flat chord the upright ones that it meets."""
    return {flat: [chord for chord in chords if chords_meet(flat, chord)] for flat in chords if _is_flat(flat)}


def _partners_of(meeting):
    """The most pairs of chords that meet: upright ones with their flat partners."""
    partners = {}
    for flat in meeting:
        _finds_partner(flat, meeting, partners, {})
    return partners


def _finds_partner(flat, meeting, partners, tried):
    """Gives a flat chord a partner, others one anew where need be; whether it could."""
    for upright in meeting[flat]:
        if upright not in tried:
            tried[upright] = True
            if upright not in partners or _finds_partner(partners[upright], meeting, partners, tried):
                partners[upright] = flat
                return True
    return False


def _drawn_flats(meeting, partners):
    """The flat ones of the most chords of which no two meet."""
    paired = list(partners.values())
    waiting = [flat for flat in meeting if flat not in paired]
    drawn, barred = [], {}
    # A drawn flat chord bars upright ones, and for each of these its partner is drawn.
    while waiting:
        flat = waiting.pop()
        drawn.append(flat)
        for upright in meeting[flat]:
            if upright not in barred:
                barred[upright] = True
                waiting.append(partners[upright])
    return drawn


def _line_from(table, point, drawn):
    """The upright line from an in point, away from its no, up to a no, the rim or a drawn chord."""
    r, c = point
    # An in point lies off the rim, and one of its four cells is the no.
    step = 1 if is_full(table, (r, c - 1, r + 1, c + 1)) else -1
    end = r
    while _goes_on(table, (end, c), step, drawn):
        end += step
    return (min(r, end), c, max(r, end), c)


def _goes_on(table, point, step, drawn):
    """Whether an upright line goes on between yeses from a point that is on no drawn flat chord."""
    r, c = point
    top = min(r, r + step)
    beside = (top, c - 1, top + 1, c + 1)
    if not is_box(table, beside) or not is_full(table, beside):
        return False
    return not any([row == r and left <= c <= right for row, left, _, right in drawn])


def _boxes_between(table, lines):
    """The rising boxes into which lines part the yes cells."""
    walls = {step: True for line in lines for step in _steps_of(line)}
    cells = yes_cells(table)
    bare = {cell: True for cell in cells}
    boxes = []
    for cell in cells:
        if cell in bare:
            boxes.append(_box_from(table, cell, walls))
            for held in cells_of(boxes[-1]):
                del bare[held]
    return boxes


def _steps_of(line):
    """The pieces of a line, each between two neighbouring points."""
    top, left, bottom, right = line
    if top == bottom:
        return [(top, c, top, c + 1) for c in range(left, right)]
    return [(r, left, r + 1, left) for r in range(top, bottom)]


def _box_from(table, cell, walls):
    """The box between walls and noes that has a cell as its first one."""
    top, left = cell
    bottom, right = top + 1, left + 1
    while right < len(table[0]) and table[top][right] == 1 and (top, right, top + 1, right) not in walls:
        right += 1
    while bottom < len(table) and table[bottom][left] == 1 and (bottom, left, bottom, left + 1) not in walls:
        bottom += 1
    return (top, left, bottom, right)
