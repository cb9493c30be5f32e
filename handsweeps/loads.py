"""Loads: all that counts of a word of sweeps."""

from handsweeps.checks import is_integer, is_integer_within
from handsweeps.errors import InvalidLoad, LimitExceeded


class Load:
    """A forward and a backward number, integers from 0 to 1,200."""

    MOST = 1200

    def __init__(self, forward, backward):
        for value in (forward, backward):
            if not is_integer_within(value, 0, Load.MOST):
                raise InvalidLoad(value)
        self._forward = forward
        self._backward = backward

    @property
    def forward(self):
        """The forward number."""
        return self._forward

    @property
    def backward(self):
        """The backward number."""
        return self._backward

    def covers(self, other):
        """Tell whether both numbers are at least as great as those of a load."""
        return self._forward >= other._forward and self._backward >= other._backward

    def __eq__(self, other):
        """Tell whether any value is a load with equal numbers."""
        return isinstance(other, Load) and self._forward == other._forward and self._backward == other._backward

    def __bool__(self):
        """Tell whether a number is above 0."""
        return bool(self._forward or self._backward)

    def __neg__(self):
        """Return the load with both numbers exchanged."""
        return Load(self._backward, self._forward)

    def __add__(self, other):
        """Return the load with the sums of the numbers."""
        _require_load(other)
        return load_within_limit(self._forward + other._forward, self._backward + other._backward)

    def __mul__(self, other):
        """Return the load with both numbers multiplied by an integer from 0 on."""
        if not is_integer(other) or other < 0:
            raise TypeError("a load is multiplied by integers from 0 on")
        return load_within_limit(self._forward * other, self._backward * other)

    def __rmul__(self, other):
        """Return the load with both numbers multiplied by an integer from 0 on."""
        return self * other

    def __and__(self, other):
        """Return the load of the lesser numbers."""
        _require_load(other)
        return Load(min(self._forward, other._forward), min(self._backward, other._backward))

    def __or__(self, other):
        """Return the load of the greater numbers."""
        _require_load(other)
        return Load(max(self._forward, other._forward), max(self._backward, other._backward))


def check_load(value):
    """Raise InvalidLoad for any value that is no load."""
    if not isinstance(value, Load):
        raise InvalidLoad(value)


def load_within_limit(forward, backward):
    """Return the load with two integers from 0 on, or raise LimitExceeded if one is too great."""
    if max(forward, backward) > Load.MOST:
        raise LimitExceeded(Load.MOST)
    return Load(forward, backward)


def _require_load(value):
    """Raise TypeError for any value that is no load."""
    # The error is raised here so that no class of a caller can give the signs a meaning.
    if not isinstance(value, Load):
        raise TypeError("only loads are combined with a load")
