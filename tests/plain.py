"""What the tests know by themselves: sample tables, and plain searches that use nothing of the program."""

import random
from functools import lru_cache
from itertools import product


@lru_cache(maxsize=None)
def box_cells(box):
    top, left, bottom, right = box
    return frozenset((r, c) for r in range(10) for c in range(10) if top <= r < bottom and left <= c < right)


def every_box(table):
    rows, columns = len(table), len(table[0])
    return [
        box
        for box in product(range(rows), range(columns), range(1, rows + 1), range(1, columns + 1))
        if box[0] < box[2] and box[1] < box[3]
    ]


def yes_cells(table):
    return {(r, c) for r, row in enumerate(table) for c, cell in enumerate(row) if cell == 1}


@lru_cache(maxsize=None)
def full_once(table):
    yes = yes_cells(table)
    return tuple(sorted(box for box in every_box(table) if box_cells(box) <= yes))


def search_full(table):
    return list(full_once(table))


@lru_cache(maxsize=None)
def grown_once(table):
    # The bigger boxes are gone over first, as they are the ones that hold another.
    held = sorted((box_cells(box) for box in full_once(table)), key=len, reverse=True)
    return tuple(box for box in full_once(table) if not any(box_cells(box) < cells for cells in held))


def search_grown(table):
    return list(grown_once(table))


def search_over(table, box):
    return [grown for grown in search_grown(table) if box_cells(box) <= box_cells(grown)]


def search_sides(table, box):
    """Each side by going over all cells of the table, as 2.2 says it."""
    top, left, bottom, right = box
    cells = [(r, c) for r in range(len(table)) for c in range(len(table[0]))]
    beside = [
        [(r, c) for r, c in cells if r == top - 1 and left <= c < right],
        [(r, c) for r, c in cells if c == left - 1 and top <= r < bottom],
        [(r, c) for r, c in cells if r == bottom and left <= c < right],
        [(r, c) for r, c in cells if c == right and top <= r < bottom],
    ]
    return tuple(stop_among(table, strip) for strip in beside)


def stop_among(table, strip):
    if not strip:
        return ()
    noes = [(r, c) for r, c in strip if table[r][c] == 0]
    return min(noes) if noes else None


def search_by(table, box, order):
    """Growing by trying the box with its side at each place, the farthest first."""
    full = full_once(table)
    farthest = (0, 0, len(table), len(table[0]))
    for side in order:
        step = 1 if farthest[side] <= box[side] else -1
        for edge in range(farthest[side], box[side] + step, step):
            moved = box[:side] + (edge,) + box[side + 1:]
            if moved in full:
                box = moved
                break
    return box


def filled_table(rows, columns, cell):
    return tuple((cell,) * columns for _ in range(rows))


def small_tables():
    """All tables of at most six cells."""
    sizes = [(h, w) for h in range(1, 7) for w in range(1, 7) if h * w <= 6]
    return [
        tuple(cells[r * w:(r + 1) * w] for r in range(h))
        for h, w in sizes
        for cells in product((0, 1), repeat=h * w)
    ]


def mixed_tables():
    """Tables of all kinds of sizes, from few yeses to nearly all, always the same ones."""
    dice = random.Random(20)
    sizes = [(1, 10), (10, 1), (2, 9), (9, 2), (3, 3), (4, 5), (5, 4), (6, 6), (7, 8), (8, 7)]
    tables = []
    for h, w in sizes:
        for tenths in (3, 5, 7, 9):
            tables.append(tuple(
                tuple(1 if dice.randrange(10) < tenths else 0 for _ in range(w)) for _ in range(h)
            ))
    return tables


def great_tables():
    """Tables of ten by ten; the mixed one has long and short boxes."""
    stripes = tuple(tuple(1 if (r * c) % 4 else 0 for c in range(10)) for r in range(10))
    return [filled_table(10, 10, 1), filled_table(10, 10, 0), stripes]


def sample_tables():
    return small_tables() + mixed_tables() + great_tables()


# Things of every kind that is neither a table nor a box.
OTHER_THINGS = [
    None, True, False, 0, 1, 5, -1, 10 ** 59, "", "1", "10", "1\n0", b"", b"\x01\x00", {}, {0: [1]}, {(0,): 1},
    set(), {1}, {(1,)}, frozenset(), frozenset([(1,)]), range(1), range(2), object(), iter([[1]]), len, ValueError,
]
