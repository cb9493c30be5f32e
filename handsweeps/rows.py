"""Rows of numbers."""

from handsweeps.checks import is_integer, is_integer_within
from handsweeps.errors import InvalidCount, InvalidPlace, InvalidRow
from handsweeps.hands import laid_down
from handsweeps.loads import Load
from handsweeps.sweeps import Backward, Forward

MOST_NUMBERS = 20
GREATEST = 999


class Row:
    """A row of 1 to 20 integers from -999 to 999."""

    def __init__(self, *numbers):
        _check_numbers(numbers)
        self._numbers = numbers

    @classmethod
    def of(cls, numbers):
        """Return the row of a tuple of numbers."""
        if not isinstance(numbers, tuple):
            raise InvalidRow(None)
        return cls(*numbers)

    @property
    def numbers(self):
        """The tuple of the numbers."""
        return self._numbers

    @property
    def bounds(self):
        """The tuple of the different numbers, in ascending order."""
        return tuple(sorted(set(self._numbers)))

    @property
    def is_in_order(self):
        """Whether no number is less than the one before it."""
        return list(self._numbers) == sorted(self._numbers)

    def is_under(self, other):
        """Tell whether a row is as long, and at each place at least as great."""
        if len(self._numbers) != len(other._numbers):
            return False
        return all([mine <= theirs for mine, theirs in zip(self._numbers, other._numbers)])

    def __len__(self):
        """Return how many numbers the row has."""
        return len(self._numbers)

    def __getitem__(self, place):
        """Return the number at a place."""
        if not is_integer_within(place, 0, len(self._numbers) - 1):
            raise InvalidPlace(place)
        return self._numbers[place]

    def __iter__(self):
        raise TypeError("a row is not iterated over: take its numbers")

    def __contains__(self, number):
        """Tell whether any value is an integer that is one of the numbers."""
        return is_integer(number) and number in self._numbers

    def __eq__(self, other):
        """Tell whether any value is a row with equal numbers."""
        return isinstance(other, Row) and self._numbers == other._numbers

    def __neg__(self):
        """Return the mirrored row."""
        numbers = _mirrored(self._numbers)
        return Row(*numbers)

    def __add__(self, other):
        """Return the row of the numbers of both, one after the other."""
        # The error is raised here so that no class of a caller can give the sign a meaning.
        if not isinstance(other, Row):
            raise TypeError("only a row can be put behind a row")
        numbers = self._numbers + other._numbers
        return Row(*numbers)

    def __rshift__(self, other):
        """Return the row after a sweep, or after any word with a load."""
        forward, backward = _forward_and_backward(other)
        # Sizes can be added and sweeps exchanged ([20]), so two hands do for all sweeps of a load.
        numbers = laid_down(self._numbers, forward)
        # A backward sweep is the forward sweep of the mirrored row, mirrored ([26]).
        numbers = _mirrored(laid_down(_mirrored(numbers), backward))
        return Row(*numbers)


def is_count(value):
    """Tell whether any value is an integer that says how many numbers a row has."""
    return is_integer_within(value, 1, MOST_NUMBERS)


def check_count(many):
    """Raise InvalidCount for any value that does not say how many numbers a row has."""
    if not is_count(many):
        raise InvalidCount(many)


def _forward_and_backward(value):
    """Return the forward and the backward number of a sweep or a load; TypeError for any other value."""
    if isinstance(value, Forward):
        return value.size, 0
    if isinstance(value, Backward):
        return 0, value.size
    if isinstance(value, Load):
        return value.forward, value.backward
    raise TypeError("only a sweep or a load can stand behind >>")


def _check_numbers(numbers):
    """Raise InvalidRow for a tuple of any values that make no row."""
    if not is_count(len(numbers)):
        raise InvalidRow(None)
    for position, value in enumerate(numbers):
        if not is_integer_within(value, -GREATEST, GREATEST):
            raise InvalidRow(position)


def _mirrored(numbers):
    """Return the list of the numbers, read from their end and with other signs."""
    return [-number for number in numbers[::-1]]
