"""Sweeps of rows, forward and backward.

The row knows what becomes of it (`row >> sweep`), so that this module need not import rows.
Each class has all methods of the interface in its own body, as the interface asks for.
"""

from handsweeps.checks import is_integer_within
from handsweeps.errors import InvalidSize
from handsweeps.hands import Hand


class Sweep:
    """The base class of sweeps. It is not called."""

    def __init__(self, size):
        if not is_integer_within(size, 1, Hand.MOST):
            raise InvalidSize(size)
        self._size = size

    @property
    def size(self):
        """The size of the hand."""
        return self._size

    def __call__(self, row):
        """Return the row after the sweep."""
        return row >> self

    def __eq__(self, other):
        """Tell whether any value is a sweep of the same class and size."""
        return type(self) is type(other) and self._size == other._size


class Forward(Sweep):
    """A sweep from the first number on, by a hand for great numbers."""

    LETTER = "f"

    def __init__(self, size):
        super().__init__(size)

    @property
    def size(self):
        """The size of the hand."""
        return self._size

    def __call__(self, row):
        """Return the row after the sweep."""
        return row >> self

    def __eq__(self, other):
        """Tell whether any value is a sweep of the same class and size."""
        return isinstance(other, Forward) and self._size == other._size


class Backward(Sweep):
    """A sweep from the last number on, by a hand for small numbers."""

    LETTER = "b"

    def __init__(self, size):
        super().__init__(size)

    @property
    def size(self):
        """The size of the hand."""
        return self._size

    def __call__(self, row):
        """Return the row after the sweep."""
        return row >> self

    def __eq__(self, other):
        """Tell whether any value is a sweep of the same class and size."""
        return isinstance(other, Backward) and self._size == other._size
