"""Hands, which hold a few numbers and lay down the others."""

from handsweeps.checks import is_integer_within
from handsweeps.errors import InvalidSize


class Hand:
    """A hand that keeps great numbers, or small ones."""

    MOST = 20

    def __init__(self, size, *, small=False):
        if not is_integer_within(size, 1, Hand.MOST):
            raise InvalidSize(size)
        self._size = size
        self._small = small
        self._held = []

    def __call__(self, number):
        """Take a number; return the one that is laid down for it, or None."""
        self._held = sorted(self._held + [number])
        if len(self._held) <= self._size:
            return None
        return self._put_down()

    def rest(self):
        """Lay down all numbers that are held, and yield them."""
        # The hand may be used again before the end, so no number leaves it ahead of its turn.
        while self._held:
            yield self._put_down()

    @property
    def held(self):
        """The numbers that are held, in ascending order."""
        return tuple(self._held)

    def _put_down(self):
        """Lay down the number that this kind of hand keeps least of all."""
        if self._small:
            return self._held.pop()
        return self._held.pop(0)


def laid_down(numbers, size):
    """Return the list of what a hand for great numbers lays down, to its end.

    Operators use this function: they may not change an object, as giving numbers to a Hand does.
    """
    held = []
    laid = []
    for number in numbers:
        held = sorted(held + [number])
        if len(held) > size:
            laid.append(held[0])
            held = held[1:]
    return laid + held
