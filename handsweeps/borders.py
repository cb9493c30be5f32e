"""All staircases of n numbers: their profiles, their orders and their ranks."""

from itertools import accumulate

from handsweeps.checks import is_integer_within
from handsweeps.errors import InvalidProfile, InvalidRank, LimitExceeded, NotOfCount
from handsweeps.loads import Load
from handsweeps.rows import Row, check_count, is_count
from handsweeps.staircases import Staircase

MOST_NUMBERS_FOR_ALL = 9


def profile(many, stairs):
    """Return the profile of a staircase of so many numbers."""
    check_count(many)
    values = tuple([stairs(forward) for forward in range(many)])
    for forward, backward in enumerate(values):
        if forward + backward > many - 1:
            raise NotOfCount(Load(forward, many - 1 - forward))
    return values


def stairs_of(values):
    """Return the staircase with a profile."""
    if not isinstance(values, tuple) or not is_count(len(values)):
        raise InvalidProfile(None)
    position = _wrong_position(values)
    if position is not None:
        raise InvalidProfile(position)
    return _stairs_with(values)


def order_for(many, stairs):
    """Return an order of so many numbers with a staircase."""
    # The profile is not needed, but it raises the errors.
    profile(many, stairs)
    numbers = _order(many, stairs.corners())
    return Row(*numbers)


def count_stairs(many):
    """Return how many staircases of so many numbers there are."""
    check_count(many)
    low, high = outer_profiles(many)
    return count_between(low, high)


def rank_of(many, stairs):
    """Return how many staircases of so many numbers have a lesser profile."""
    values = profile(many, stairs)
    low, high = outer_profiles(many)
    lesser = [numbers[value - 1] for numbers, value in zip(_ways(low, high), values) if value > 0]
    return sum(lesser)


def stairs_by_rank(many, rank):
    """Return the staircase of so many numbers with a rank."""
    if not is_integer_within(rank, 0, count_stairs(many) - 1):
        raise InvalidRank(rank)
    low, high = outer_profiles(many)
    return _stairs_with(profile_between(low, high, rank))


def all_stairs(many):
    """Yield all staircases of so many numbers, by ascending ranks."""
    check_count(many)
    if many > MOST_NUMBERS_FOR_ALL:
        raise LimitExceeded(MOST_NUMBERS_FOR_ALL)
    low, high = outer_profiles(many)
    for values in profiles_between(low, high):
        yield _stairs_with(values)


def is_profile(many, value):
    """Tell whether any value is a profile of so many numbers."""
    return isinstance(value, tuple) and len(value) == many and _wrong_position(value) is None


def is_at_most(one, other):
    """Tell whether each item of a profile is at most as great as that of another one."""
    return all([mine <= theirs for mine, theirs in zip(one, other)])


def outer_profiles(many):
    """Return the least and the greatest profile of so many numbers, between which all others lie."""
    return (0,) * many, tuple(range(many - 1, -1, -1))


def count_between(low, high):
    """Return how many profiles have no item less than that of low, and none greater than that of high."""
    return _ways(low, high)[0][-1]


def profile_between(low, high, rank):
    """Return the one of these profiles that has so many of them before it."""
    return _profile_at(_ways(low, high), rank)


def profiles_between(low, high):
    """Yield these profiles, in ascending order."""
    # Each one is made from the one before it, so that whoever leaves early waits for none of the others.
    values = low
    while values is not None:
        yield values
        values = _profile_after(values, low, high)


def _stairs_with(values):
    """Return the staircase with a tuple that surely is a profile, so that it is not looked through again."""
    before = (len(values),) + values
    loads = [Load(forward, backward) for forward, backward in enumerate(values) if backward < before[forward]]
    return Staircase(*loads)


def _ways(low, high):
    """Return how many ways there are to fill a profile between low and high from each position to its end.

    Each item is a list: its number at t counts the ways in which the item at the position is at most t.
    """
    many = len(low)
    ways = [[1] * many]
    for position in range(many - 1, -1, -1):
        ends = [number if low[position] <= value <= high[position] else 0 for value, number in enumerate(ways[-1])]
        ways.append(list(accumulate(ends)))
    return ways[::-1]


def _profile_at(ways, rank):
    """Return the profile with a rank, where ways tells how many there are."""
    values = []
    left = rank
    for numbers in ways[:-1]:
        value = len([number for number in numbers if number <= left])
        if value > 0:
            left = left - numbers[value - 1]
        values.append(value)
    return tuple(values)


def _profile_after(values, low, high):
    """Return the least profile between low and high that is greater than one of them, or None if there is none."""
    for position in range(len(values) - 1, -1, -1):
        value = values[position]
        # No item is greater than the one before it, and the first one has none before it.
        if value < high[position] and (position == 0 or value < values[position - 1]):
            return values[:position] + (value + 1,) + low[position + 1:]
    return None


def _wrong_position(values):
    """Return the first position at which a tuple of any values is no profile, or None."""
    most = len(values) - 1
    for position, value in enumerate(values):
        if not is_integer_within(value, 0, min(most, len(values) - 1 - position)):
            return position
        most = value
    return None


def _order(many, corners):
    """Return the list of an order of so many numbers whose staircase has some corners ([42])."""
    if not corners:
        return list(range(many))
    ends = [forward for forward, backward in corners if forward + backward == many]
    if not ends:
        return _order(many - 1, corners) + [many - 1]
    numbers = []
    for start, end in zip([0] + ends, ends + [many]):
        numbers.extend(_block(many, corners, start, end))
    return numbers


def _block(many, corners, start, end):
    """Return the numbers from the place start up to the place end of an order of so many numbers.

    All numbers in front of them are greater and all behind them are less, so that only the corners between the two
    places matter.
    """
    behind = many - end
    inner = [(forward - start, backward - behind) for forward, backward in corners if start < forward < end]
    return [behind + number for number in _order(end - start, inner)]
