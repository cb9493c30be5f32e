"""Batches: rows that are put in order by the same sweeps."""

from handsweeps.borders import order_for
from handsweeps.checks import is_integer_within
from handsweeps.errors import InvalidBatch, InvalidPlace
from handsweeps.rows import Row
from handsweeps.staircases import Staircase

MOST_ROWS = 20


class Batch:
    """1 to 20 rows, perhaps of different lengths."""

    def __init__(self, *rows):
        _check_rows(rows)
        self._rows = rows

    @classmethod
    def of(cls, rows):
        """Return the batch of a tuple of rows."""
        if not isinstance(rows, tuple):
            raise InvalidBatch(None)
        return cls(*rows)

    @property
    def rows(self):
        """The tuple of the rows."""
        return self._rows

    def staircase(self):
        """Return the staircase: the loads after which all rows are in order."""
        stairs = Staircase.of_row(self._rows[0])
        for row in self._rows[1:]:
            stairs = stairs & Staircase.of_row(row)
        return stairs

    def owners(self):
        """Return the tuple of the positions of the rows that own it, for each corner of the batch."""
        corners = [Staircase.of_row(row).corners() for row in self._rows]
        return tuple([
            tuple([position for position, own in enumerate(corners) if corner in own])
            for corner in self.staircase().corners()
        ])

    def core(self):
        """Return the tuple of the positions of rows that own all corners together, none of which can be left out."""
        owners = self.owners()
        kept = list(range(len(self._rows)))
        for position in range(len(self._rows) - 1, -1, -1):
            others = _without(kept, position)
            if _own_all(others, owners):
                kept = others
        return tuple(kept)

    def check_core(self, value):
        """Tell whether any value is an ascending tuple of the positions of a core."""
        if not isinstance(value, tuple):
            return False
        if not all([is_integer_within(position, 0, len(self._rows) - 1) for position in value]):
            return False
        if list(value) != sorted(set(value)):
            return False
        owners = self.owners()
        if not _own_all(value, owners):
            return False
        return not any([_own_all(_without(value, position), owners) for position in value])

    def stand_in(self):
        """Return an order as long as the longest row, with the staircase of the batch."""
        return order_for(max([len(row) for row in self._rows]), self.staircase())

    def __len__(self):
        """Return how many rows the batch has."""
        return len(self._rows)

    def __getitem__(self, position):
        """Return the row at a position."""
        if not is_integer_within(position, 0, len(self._rows) - 1):
            raise InvalidPlace(position)
        return self._rows[position]

    def __iter__(self):
        raise TypeError("a batch is not iterated over: take its rows")

    def __contains__(self, row):
        """Tell whether any value is equal to a row of the batch."""
        return isinstance(row, Row) and row in self._rows

    def __eq__(self, other):
        """Tell whether any value is a batch of equal rows in the same order."""
        return isinstance(other, Batch) and self._rows == other._rows

    def __add__(self, other):
        """Return the batch of the rows of both."""
        # The error is raised here so that no class of a caller can give the sign a meaning.
        if not isinstance(other, Batch):
            raise TypeError("only a batch can be put behind a batch")
        rows = self._rows + other._rows
        return Batch(*rows)

    def __rshift__(self, other):
        """Return the batch of the rows after a sweep, or after any word with a load."""
        rows = [row >> other for row in self._rows]
        return Batch(*rows)


def _check_rows(rows):
    """Raise InvalidBatch for a tuple of any values that make no batch."""
    if not 1 <= len(rows) <= MOST_ROWS:
        raise InvalidBatch(None)
    for position, value in enumerate(rows):
        if not isinstance(value, Row):
            raise InvalidBatch(position)


def _without(positions, position):
    """Return the list of the positions without one."""
    return [other for other in positions if other != position]


def _own_all(positions, owners):
    """Tell whether each corner is owned by a row at one of some positions."""
    return all([any([position in positions for position in own]) for own in owners])
