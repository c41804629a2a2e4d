"""The refusals: each one straight beneath PaneError, made with a text."""


class PaneError(ValueError):
    """What all refusals are beneath."""


class BadTable(PaneError):
    """A thing makes no table."""


class BadMeasure(PaneError):
    """A thing is no measure."""


class NoSize(PaneError):
    """A size is none that is taken."""


class NoMatch(PaneError):
    """Two tables have unlike counts of rows or columns."""


class TooMany(PaneError):
    """A table has more full-grown boxes than are taken."""


class NoCount(PaneError):
    """A thing is no count that is taken."""


class NoCell(PaneError):
    """A row and a column are not those of a cell."""


class BadWorth(PaneError):
    """A worth is neither 1 nor 0."""


class NothingDone(PaneError):
    """There is no deed to take back."""


class NoText(PaneError):
    """A text is not one that is written so."""


class NoRow(PaneError):
    """A row is none that the desk knows."""


class NoSheet(PaneError):
    """The desk has no sheet yet."""
