"""What the tests know by themselves: sample tables, and plain searches that use nothing of the program."""

import random
from functools import lru_cache
from itertools import product


@lru_cache(maxsize=None)
def box_cells(box):
    top, left, bottom, right = box
    return frozenset((r, c) for r in range(10) for c in range(10) if top <= r < bottom and left <= c < right)


@lru_cache(maxsize=None)
def boxes_once(rows, columns):
    return tuple(
        box
        for box in product(range(rows), range(columns), range(1, rows + 1), range(1, columns + 1))
        if box[0] < box[2] and box[1] < box[3]
    )


def every_box(table):
    return list(boxes_once(len(table), len(table[0])))


def yes_cells(table):
    return {(r, c) for r, row in enumerate(table) for c, cell in enumerate(row) if cell == 1}


@lru_cache(maxsize=None)
def full_once(table):
    yes = yes_cells(table)
    return tuple(sorted(box for box in every_box(table) if box_cells(box) <= yes))


def search_full(table):
    return list(full_once(table))


@lru_cache(maxsize=None)
def grown_once(table):
    # The bigger boxes are gone over first, as they are the ones that hold another.
    held = sorted((box_cells(box) for box in full_once(table)), key=len, reverse=True)
    return tuple(box for box in full_once(table) if not any(box_cells(box) < cells for cells in held))


def search_grown(table):
    return list(grown_once(table))


def search_over(table, box):
    return [grown for grown in search_grown(table) if box_cells(box) <= box_cells(grown)]


def search_sides(table, box):
    """Each side by going over all cells of the table, as 2.2 says it."""
    top, left, bottom, right = box
    cells = [(r, c) for r in range(len(table)) for c in range(len(table[0]))]
    beside = [
        [(r, c) for r, c in cells if r == top - 1 and left <= c < right],
        [(r, c) for r, c in cells if c == left - 1 and top <= r < bottom],
        [(r, c) for r, c in cells if r == bottom and left <= c < right],
        [(r, c) for r, c in cells if c == right and top <= r < bottom],
    ]
    return tuple(stop_among(table, strip) for strip in beside)


def stop_among(table, strip):
    if not strip:
        return ()
    noes = [(r, c) for r, c in strip if table[r][c] == 0]
    return min(noes) if noes else None


def search_by(table, box, order):
    """Growing by trying the box with its side at each place, the farthest first."""
    full = full_once(table)
    farthest = (0, 0, len(table), len(table[0]))
    for side in order:
        step = 1 if farthest[side] <= box[side] else -1
        for edge in range(farthest[side], box[side] + step, step):
            moved = box[:side] + (edge,) + box[side + 1:]
            if moved in full:
                box = moved
                break
    return box


def filled_table(rows, columns, cell):
    return tuple((cell,) * columns for _ in range(rows))


def small_tables():
    """All tables of at most six cells."""
    sizes = [(h, w) for h in range(1, 7) for w in range(1, 7) if h * w <= 6]
    return [
        tuple(cells[r * w:(r + 1) * w] for r in range(h))
        for h, w in sizes
        for cells in product((0, 1), repeat=h * w)
    ]


def mixed_tables():
    """Tables of all kinds of sizes, from few yeses to nearly all, always the same ones."""
    dice = random.Random(20)
    sizes = [(1, 10), (10, 1), (2, 9), (9, 2), (3, 3), (4, 5), (5, 4), (6, 6), (7, 8), (8, 7)]
    tables = []
    for h, w in sizes:
        for tenths in (3, 5, 7, 9):
            tables.append(tuple(
                tuple(1 if dice.randrange(10) < tenths else 0 for _ in range(w)) for _ in range(h)
            ))
    return tables


def great_tables():
    """Tables of ten by ten; the mixed one has long and short boxes."""
    stripes = tuple(tuple(1 if (r * c) % 4 else 0 for c in range(10)) for r in range(10))
    return [filled_table(10, 10, 1), filled_table(10, 10, 0), stripes]


def made_by(rows, columns, is_yes):
    """The table of the cells that a function says are yes."""
    return tuple(tuple(int(is_yes(r, c)) for c in range(columns)) for r in range(rows))


def checkers():
    return [made_by(10, 10, lambda r, c, odd=odd: (r + c + odd) % 2) for odd in (0, 1)]


def lone_noes(rows, columns):
    """Noes alone in every second row and column."""
    return made_by(rows, columns, lambda r, c: r % 2 == 0 or c % 2 == 0)


def rings():
    """Yeses and noes that go round one another."""
    return made_by(10, 10, lambda r, c: min(r, c, 9 - r, 9 - c) % 2 == 0)


def drawn_tables(rows, columns, seed):
    """Tables of one size from few yeses to nearly all, always the same ones of a seed."""
    dice = random.Random(seed)
    return [made_by(rows, columns, lambda r, c, few=few: dice.randrange(20) >= few) for few in (1, 3, 6, 10, 14, 18)]


def wide_tables():
    """Tables of ten by ten of all kinds, with many chords, pieces, holes and boxes among them."""
    gridded = made_by(10, 10, lambda r, c: r % 3 != 1 or c % 3 != 1)
    shifted = made_by(10, 10, lambda r, c: r % 2 == 0 or (c + r // 2) % 3 != 1)
    crossed = made_by(10, 10, lambda r, c: 3 <= r < 7 or 3 <= c < 7)
    told = [lone_noes(10, 10), rings(), gridded, shifted, crossed]
    return great_tables() + checkers() + told + drawn_tables(10, 10, 8)


def turned(table):
    return tuple(zip(*table))


def mirrored(table):
    return tuple(row[::-1] for row in table)


def sample_tables():
    return small_tables() + mixed_tables() + great_tables()


# Things of every kind that is neither a table nor a box.
OTHER_THINGS = [
    None, True, False, 0, 1, 5, -1, 10 ** 59, "", "1", "10", "1\n0", b"", b"\x01\x00", {}, {0: [1]}, {(0,): 1},
    set(), {1}, {(1,)}, frozenset(), frozenset([(1,)]), range(1), range(2), object(), iter([[1]]), len, ValueError,
]


VAST = 10 ** 60 - 1

# Measures of all four kinds: weights 0, small ones and ones of sixty figures.
MEASURES = [
    ("area",), ("sides",), ("square",), ("weights", 0, 0), ("weights", 1, 0), ("weights", 0, 1), ("weights", 3, 2),
    ("weights", 2, 7), ("weights", VAST, 0), ("weights", 1, VAST), ("weights", 10 ** 59, VAST),
]

# What is no measure: every kind of thing, and what is a measure but for one thing.
OTHER_MEASURES = OTHER_THINGS + [
    "area", "sides", "weights", "(\"area\",)", ["area"], ["sides"], ["square"], ["weights", 1, 2], [("area",)],
    (), ("",), ("Area",), ("area ",), ("areas",), ("are",), ("side",), ("small",), ("weight",), ("weight", 1, 2),
    ("area", "area"), ("area", 1), ("area", 1, 2), ("area", ()), ("sides", 0), ("square", None), ("square", 1, 1),
    ("weights",), ("weights", 1), ("weights", 1, 2, 3), ("weights", (1, 2)), ("weights", [1, 2]), (1, 2, "weights"),
    ("weights", -1, 0), ("weights", 0, -1), ("weights", -VAST, VAST), ("weights", VAST, -VAST), ("weights", -1, -1),
    ("weights", True, 0), ("weights", 0, True), ("weights", False, 0), ("weights", 0, False), ("weights", True, True),
    ("weights", "1", 2), ("weights", 1, "2"), ("weights", None, 1), ("weights", 1, None), ("weights", (1,), 1),
    ("weights", 1, [1]), ("weights", {}, 0), ("weights", 0, b"\x01"), (None,), (True,), (0,), (1, 2), (1, 1, 2),
    (b"area",), (("area",),), ((((("area",),),),),), (["area"],), ({"area": 1},), ("weights", ((((1,),),),), 1),
    ("area",) * 200, ("weights",) + (1,) * 199, tuple(range(200)), ("a" * 198,), "a" * 200, (("area",),) * 66,
]


def height_and_width(box):
    return box[2] - box[0], box[3] - box[1]


def plain_value(measure, height, width):
    values = {"area": height * width, "sides": height + width, "square": min(height, width)}
    if measure[0] == "weights":
        return sum([measure[1] * height, measure[2] * width])
    return values[measure[0]]


def search_greatest(table, measure):
    """The greatest value of all full boxes, and those full-grown ones that have it."""
    valued = {box: plain_value(measure, *height_and_width(box)) for box in search_full(table)}
    greatest = max(valued.values(), default=0)
    return greatest, [box for box in search_grown(table) if valued[box] == greatest]


@lru_cache(maxsize=None)
def windows_once(rows, columns, height, width):
    return tuple(sorted(box for box in boxes_once(rows, columns) if height_and_width(box) == (height, width)))


def search_windows(table, height, width):
    return list(windows_once(len(table), len(table[0]), height, width))


def sizes_in(table):
    return [(h, w) for h in range(1, len(table) + 1) for w in range(1, len(table[0]) + 1)]


def is_beyond(size, other):
    """Whether a size is as high and as wide as another one, or more."""
    return size[0] >= other[0] and size[1] >= other[1]


# What is a height or width of no table.
OTHER_SIZES = [thing for thing in OTHER_THINGS if not isinstance(thing, int)] + [
    True, False, 0, -1, -10, 11, 10 ** 59, VAST, -VAST, "a" * 200, [], [1], [1, 1], (), (1,), (1, 1), ((((1,),),),),
    {1: 1}, {"a": 1}, (1,) * 200,
]


def reckon_corners(table):
    """The points by their four cells, all that are yes taken from a set of cells."""
    yes = yes_cells(table)
    told = ([], [], [])
    for r in range(len(table) + 1):
        for c in range(len(table[0]) + 1):
            around = sorted(yes & {(r - 1, c - 1), (r - 1, c), (r, c - 1), (r, c)})
            if len(around) == 1:
                told[0].append((r, c))
            elif around in ([(r - 1, c - 1), (r, c)], [(r - 1, c), (r, c - 1)]):
                told[1].append((r, c))
            elif len(around) == 3:
                told[2].append((r, c))
    return told


def search_chords(table):
    yes = yes_cells(table)
    points = reckon_corners(table)[2]
    found = []
    for top, left in points:
        for bottom, right in points:
            flat = {(r, c) for r in (top - 1, top) for c in range(left, right)}
            upright = {(r, c) for r in range(top, bottom) for c in (left - 1, left)}
            if top == bottom and left < right and flat <= yes or left == right and top < bottom and upright <= yes:
                found.append((top, left, bottom, right))
    return sorted(found)


def points_on(chord):
    top, left, bottom, right = chord
    return {(r, c) for r in range(top, bottom + 1) for c in range(left, right + 1)}


def search_meet(one, other):
    flat = [chord[0] == chord[2] for chord in (one, other)]
    return flat[0] != flat[1] and bool(points_on(one) & points_on(other))


# What is no number from 0 on.
OTHER_COUNTS = [thing for thing in OTHER_THINGS if type(thing) is not int or thing < 0] + [
    -2, -VAST, -10 ** 59, "a" * 200, "0", [], [0], [1, 1], (), (0,), (1, 1), ((((0,),),),), {0: 0}, {"a": 1}, (1,) * 200,
]


@lru_cache(maxsize=None)
def noes_in(table, box):
    return sum(1 for r, c in box_cells(box) if table[r][c] == 0)


def lies_in(box, other):
    return all(other[k] <= box[k] and box[k + 2] <= other[k + 2] for k in (0, 1))


@lru_cache(maxsize=None)
def let_once(table, k):
    return tuple(sorted(box for box in every_box(table) if noes_in(table, box) <= k))


def search_let(table, k):
    return list(let_once(table, k))


@lru_cache(maxsize=None)
def let_grown_once(table, k):
    boxes = sorted(let_once(table, k), key=lambda box: len(box_cells(box)), reverse=True)
    # All that hold a box are greater, so what lies in none of those kept so far lies in none at all.
    kept = []
    for box in boxes:
        if not any(lies_in(box, other) for other in kept):
            kept.append(box)
    return tuple(sorted(kept))


def search_let_grown(table, k):
    return list(let_grown_once(table, k))


def changed(table, r, c, worth):
    rows = [list(row) for row in table]
    rows[r][c] = worth
    return tuple(map(tuple, rows))
