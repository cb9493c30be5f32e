"""Staircases: sets of loads, such as those after which a row is in order."""

from handsweeps.checks import is_integer_within
from handsweeps.cuts import Cut, counts, is_cut_of
from handsweeps.errors import InvalidLoad, InvalidStairs, LimitExceeded
from handsweeps.loads import Load


class Staircase:
    """The loads that cover one of 1 to 100 least ones."""

    MOST = 100

    def __init__(self, *loads):
        _check_loads(loads)
        self._loads = loads

    @classmethod
    def of_corners(cls, corners):
        """Return the staircase with a tuple of corners."""
        _check_corners(corners)
        # Each least load lies between two corners, the first one ahead of all and the last one behind all.
        forwards = [0] + [forward for forward, _ in corners]
        backwards = [backward for _, backward in corners] + [0]
        loads = [Load(forward, backward) for forward, backward in zip(forwards, backwards)]
        return cls(*loads)

    @classmethod
    def of_row(cls, row):
        """Return the staircase of a row."""
        return cls.of_corners(_corners_of(row))

    def least(self):
        """Yield the least loads in their order."""
        yield from self._loads

    def corners(self):
        """Return the tuple of the corners, in ascending order."""
        return tuple([(after.forward, load.backward) for load, after in zip(self._loads, self._loads[1:])])

    def shifted(self, load):
        """Return the staircase that is left of this one after a load."""
        return _with_loads([
            (max(0, old.forward - load.forward), max(0, old.backward - load.backward)) for old in self._loads
        ])

    def __call__(self, forward):
        """Return the least backward number with which a forward number is in the staircase."""
        if not is_integer_within(forward, 0, Load.MOST):
            raise InvalidLoad(forward)
        return min([load.backward for load in self._loads if load.forward <= forward])

    def __len__(self):
        """Return how many least loads there are."""
        return len(self._loads)

    def __contains__(self, load):
        """Tell whether any value is a load of the staircase."""
        return isinstance(load, Load) and any([load.covers(other) for other in self._loads])

    def __eq__(self, other):
        """Tell whether any value is a staircase with the same loads."""
        return isinstance(other, Staircase) and self._loads == other._loads

    def __neg__(self):
        """Return the staircase of the loads with both numbers exchanged."""
        loads = [-load for load in self._loads[::-1]]
        return Staircase(*loads)

    def __and__(self, other):
        """Return the common part of two staircases."""
        _require_stairs(other)
        # A load is in both if it is beyond no corner of either one ([16]).
        corners = _outermost(self.corners() + other.corners())
        if len(corners) >= Staircase.MOST:
            raise LimitExceeded(Staircase.MOST)
        return Staircase.of_corners(corners)

    def __or__(self, other):
        """Return the staircase of the loads of both."""
        _require_stairs(other)
        return _with_loads([(load.forward, load.backward) for load in self._loads + other._loads])


def corner_cuts(row):
    """Return a tuple with a cut of a row for each corner of its staircase, whose counts are the corner."""
    cuts = _cuts_by_counts(row)
    return tuple([cuts[corner] for corner in _corners_of(row)])


def shows_stairs(row, stairs, value):
    """Tell whether a row is in order after all loads of a staircase, and any value shows that after no others."""
    corners = stairs.corners()
    if not isinstance(value, tuple) or len(value) != len(corners):
        return False
    if not all([_reaches(row, cut, corner) for cut, corner in zip(value, corners)]):
        return False
    return all([(row >> load).is_in_order for load in list(stairs.least())])


def _reaches(row, value, corner):
    """Tell whether any value is a cut of a row whose counts are at least the numbers of a corner."""
    if not is_cut_of(row, value):
        return False
    great, small = counts(row, value)
    return great >= corner[0] and small >= corner[1]


def _cuts_by_counts(row):
    """Return a dict from the counts of all cuts that matter to one of the cuts each."""
    # Bounds that are no numbers of the row add no counts, and the place 0 has no great numbers in front ([22]).
    cuts = {}
    for bound in row.bounds:
        great = 0
        small = len([number for number in row.numbers if number < bound])
        for place, number in enumerate(row.numbers):
            if number >= bound:
                great += 1
            else:
                small -= 1
            cuts[great, small] = Cut(place + 1, bound)
    return cuts


def _corners_of(row):
    """Return the tuple of the corners of the staircase of a row."""
    return _outermost(list(_cuts_by_counts(row)))


def _outermost(pairs):
    """Return the ascending tuple of the pairs with numbers from 1 on that no other pair reaches beyond."""
    found = [(0, 0)]
    for forward, backward in sorted(pairs, reverse=True):
        if forward > 0 and backward > found[-1][1]:
            found.append((forward, backward))
    return tuple(found[:0:-1])


def _with_loads(pairs):
    """Return the staircase of the loads that cover one of some pairs."""
    found = []
    for forward, backward in sorted(pairs):
        if not found or backward < found[-1][1]:
            found.append((forward, backward))
    if len(found) > Staircase.MOST:
        raise LimitExceeded(Staircase.MOST)
    loads = [Load(forward, backward) for forward, backward in found]
    return Staircase(*loads)


def _check_loads(loads):
    """Raise InvalidStairs for a tuple of any values that are not the least loads of a staircase."""
    if not 1 <= len(loads) <= Staircase.MOST:
        raise InvalidStairs(None)
    for position, value in enumerate(loads):
        if not _is_load_behind(value, loads[:position]):
            raise InvalidStairs(position)
    if loads[-1].backward > 0:
        raise InvalidStairs(len(loads) - 1)


def _is_load_behind(value, loads):
    """Tell whether any value can be the next least load behind some."""
    if not isinstance(value, Load):
        return False
    if not loads:
        return value.forward == 0
    return value.forward > loads[-1].forward and value.backward < loads[-1].backward


def _check_corners(corners):
    """Raise InvalidStairs for any value that is no tuple of the corners of a staircase."""
    if not isinstance(corners, tuple) or len(corners) >= Staircase.MOST:
        raise InvalidStairs(None)
    for position, value in enumerate(corners):
        if not _is_corner_behind(value, corners[:position]):
            raise InvalidStairs(position)


def _is_corner_behind(value, corners):
    """Tell whether any value can be the next corner behind some."""
    if not isinstance(value, tuple) or len(value) != 2:
        return False
    if not all([is_integer_within(number, 1, Load.MOST) for number in value]):
        return False
    return not corners or (value[0] > corners[-1][0] and value[1] < corners[-1][1])


def _require_stairs(value):
    """Raise TypeError for any value that is no staircase."""
    # The error is raised here so that no class of a caller can give the signs a meaning.
    if not isinstance(value, Staircase):
        raise TypeError("only staircases are combined with a staircase")
