"""A table whose cells change, with what that does to its full-grown boxes."""

from fullpanes.errors import BadWorth, NoCell, NothingDone
from fullpanes.grown import grown_boxes
from fullpanes.tables import is_number, is_worth


class Sheet:
    """A table, the deeds that changed its cells, and its full-grown boxes."""

    def __init__(self, table):
        self._table = tuple([tuple(row) for row in table])
        self._grown = grown_boxes(self._table)
        # Each deed as the cell and its worth ahead of it.
        self._deeds = []

    def put(self, r, c, worth):
        """Puts a cell to 1 or 0; which boxes are full-grown no longer, and which newly."""
        if not _is_place(r, len(self._table)) or not _is_place(c, len(self._table[0])):
            raise NoCell("a cell of the sheet has a row and a column that are there")
        if not is_worth(worth):
            raise BadWorth("a cell is put to 1 or 0")
        self._deeds.append((r, c, self._table[r][c]))
        return self._change(r, c, worth)

    def back(self):
        """Takes back the last deed that isn't taken back; what that changes, as of a deed."""
        if len(self._deeds) == 0:
            raise NothingDone("there is no deed to take back")
        r, c, worth = self._deeds.pop()
        return self._change(r, c, worth)

    def table_now(self):
        """The table as it is."""
        return self._table

    def grown_now(self):
        """The rising list of the full-grown boxes of the table as it is."""
        return list(self._grown)

    def _change(self, r, c, worth):
        """Makes a cell yes or no; the boxes gone and come."""
        rows = [list(row) for row in self._table]
        rows[r][c] = worth
        ahead = self._grown
        self._table = tuple([tuple(row) for row in rows])
        self._grown = grown_boxes(self._table)
        return (_missing_in(self._grown, ahead), _missing_in(ahead, self._grown))


def _is_place(thing, count):
    """Whether a thing is the number of one of so many rows or columns."""
    return is_number(thing) and 0 <= thing < count


def _missing_in(others, boxes):
    """Those of some boxes that are not among the others."""
    known = {box: True for box in others}
    return [box for box in boxes if box not in known]
