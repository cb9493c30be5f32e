"""Cuts of rows, which show that a row does not come in order."""

from handsweeps.checks import is_integer_within
from handsweeps.errors import InvalidCut

LAST_PLACE = 20
GREATEST_BOUND = 1000


class Cut:
    """A place from 0 to 20 and a bound from -1,000 to 1,000."""

    def __init__(self, place, bound):
        if not is_integer_within(place, 0, LAST_PLACE):
            raise InvalidCut(place)
        if not is_integer_within(bound, -GREATEST_BOUND, GREATEST_BOUND):
            raise InvalidCut(bound)
        self._place = place
        self._bound = bound

    @property
    def place(self):
        """The place: how many numbers of a row are in front of the cut."""
        return self._place

    @property
    def bound(self):
        """The bound: numbers that are at least as great are great."""
        return self._bound

    def __eq__(self, other):
        """Tell whether any value is a cut with the same place and bound."""
        return isinstance(other, Cut) and self._place == other._place and self._bound == other._bound


def is_cut_of(row, value):
    """Tell whether any value is a cut whose place the row has, its end included."""
    return isinstance(value, Cut) and value.place <= len(row)


def counts(row, cut):
    """Return how many numbers in front of a cut are great, and how many behind it are small."""
    if not is_cut_of(row, cut):
        raise InvalidCut(cut)
    great = [number for number in row.numbers[:cut.place] if number >= cut.bound]
    small = [number for number in row.numbers[cut.place:] if number < cut.bound]
    return len(great), len(small)
