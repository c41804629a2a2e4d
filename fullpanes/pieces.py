"""What hangs together in a table: pieces of yes cells, and holes of noes."""

from fullpanes.tables import cells_with, whole_of, yes_cells

BESIDE = ((-1, 0), (0, -1), (0, 1), (1, 0))
AROUND = ((-1, -1), (-1, 0), (-1, 1), (0, -1), (0, 1), (1, -1), (1, 0), (1, 1))


def pieces_of(table):
    """The pieces: yes cells that hang together side by side."""
    return _clusters(yes_cells(table), BESIDE)


def holes_of(table):
    """The holes: noes that hang together all around, with none at the rim."""
    clusters = _clusters(cells_with(table, whole_of(table), 0), AROUND)
    return [cells for cells in clusters if not any([_is_at_rim(table, cell) for cell in cells])]


def _clusters(cells, steps):
    """Rising cells as lists of those that hang together by steps, first cells rising."""
    loose = {cell: True for cell in cells}
    found = []
    for cell in cells:
        if cell in loose:
            found.append(_taken_with(cell, loose, steps))
    return found


def _taken_with(first, loose, steps):
    """The rising list of the loose cells that hang together with one, loose no longer."""
    taken = []
    waiting = [first]
    while waiting:
        r, c = waiting.pop()
        if (r, c) in loose:
            del loose[(r, c)]
            taken.append((r, c))
            waiting.extend([(r + down, c + across) for down, across in steps])
    return sorted(taken)


def _is_at_rim(table, cell):
    r, c = cell
    return r in (0, len(table) - 1) or c in (0, len(table[0]) - 1)
