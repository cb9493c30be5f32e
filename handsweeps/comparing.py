"""What two words do to all rows of so many numbers."""

from handsweeps.checks import begins_with
from handsweeps.rows import Row, check_count
from handsweeps.words import load_of


def compare_words(many, one, other):
    """Return in what way two words are alike, or a row that shows that they are not."""
    check_count(many)
    loads = load_of(one), load_of(other)
    alike = _how_alike(many, loads)
    if alike is not None:
        return "alike", alike
    return "row", _row_apart(many, loads)


def check_comparison(many, one, other, value):
    """Tell whether any value is a pair that compare_words could return."""
    check_count(many)
    loads = load_of(one), load_of(other)
    if begins_with(value, "alike", 2):
        return isinstance(value[1], str) and value[1] == _how_alike(many, loads)
    if begins_with(value, "row", 2):
        return isinstance(value[1], Row) and len(value[1]) == many and _parts_loads(value[1], loads)
    return False


def _how_alike(many, loads):
    """Return why two loads do the same to all rows of so many numbers, or None if they do not."""
    if loads[0] == loads[1]:
        return "equal"
    if all([_is_enough(many, load) for load in loads]):
        return "all"
    return None


def _is_enough(many, load):
    """Tell whether all rows of so many numbers are in order after a load."""
    return load.forward + load.backward >= many - 1


def _parts_loads(row, loads):
    """Tell whether a row is in order after exactly one of two loads."""
    return (row >> loads[0]).is_in_order != (row >> loads[1]).is_in_order


def _row_apart(many, loads):
    """Return a row of so many numbers that is in order after exactly one of two loads that are not alike."""
    one, other = loads
    # The row of [24] for a load is in order after the other one exactly if the load does not cover that one.
    if _is_enough(many, one) or one.covers(other):
        return _row_against(many, other)
    return _row_against(many, one)


def _row_against(many, load):
    """Return the row of [24] for a load, which is not in order after it."""
    great = (1,) * (load.forward + 1)
    small = (0,) * (load.backward + 1)
    return Row.of(great + small + (1,) * (many - len(great) - len(small)))
