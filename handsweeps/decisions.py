"""What becomes of a row after a load, and from what it may have come."""

from handsweeps.checks import begins_with, is_integer
from handsweeps.cuts import Cut, counts, is_cut_of
from handsweeps.rows import Row


def decide(row, load):
    """Return the row in order that a row becomes after a load, or a cut that shows that it does not."""
    after = row >> load
    if after.is_in_order:
        return "order", after
    return "cut", _cut_beyond(row, load)


def check_decision(row, load, value):
    """Tell whether any value is a pair that decide could return."""
    if begins_with(value, "order", 2):
        after = row >> load
        return isinstance(value[1], Row) and value[1] == after and after.is_in_order
    if begins_with(value, "cut", 2):
        return is_cut_of(row, value[1]) and _is_beyond(row, load, value[1])
    return False


def source_of(row, load):
    """Return an arrangement that becomes a row after a load, or a bound that shows that none does."""
    showing = [bound for bound in row.bounds if _shows_no_source(row, load, bound)]
    if showing:
        return "bound", showing[0]
    return "source", _source(row, load)


def check_source(row, load, value):
    """Tell whether any value is a pair that source_of could return."""
    if begins_with(value, "source", 2):
        return isinstance(value[1], Row) and value[1] >> load == row
    if begins_with(value, "bound", 2):
        return is_integer(value[1]) and _shows_no_source(row, load, value[1])
    return False


def _is_beyond(row, load, cut):
    """Tell whether both counts of a cut of the row are greater than the numbers of a load."""
    great, small = counts(row, cut)
    return great > load.forward and small > load.backward


def _cut_beyond(row, load):
    """Return a cut with greater counts than a load after which the row is not in order."""
    # There is one with a number of the row as its bound ([22]).
    cuts = [_cut_with(row, load, bound) for bound in row.bounds]
    return [cut for cut in cuts if _is_beyond(row, load, cut)][0]


def _cut_with(row, load, bound):
    """Return the first cut with a bound and more great numbers than a load has, or the one at the row's end."""
    # A place further back has no more small numbers behind it.
    places = [place + 1 for place, number in enumerate(row.numbers) if number >= bound]
    return Cut(min(places[load.forward:], default=len(row)), bound)


def _shows_no_source(row, load, bound):
    """Tell whether the letters for a bound are not those of a row after a load ([28])."""
    letters = [int(number >= bound) for number in row.numbers]
    first = letters[:min(load.backward, letters.count(0))]
    last = letters[len(letters) - min(load.forward, letters.count(1)):]
    return 1 in first or 0 in last


def _source(row, load):
    """Return a source of a row for a load for which no bound shows that there is none."""
    # A load as great as the row puts each arrangement in order, so that the row is a source of itself.
    if load.forward + load.backward >= len(row):
        return row
    start = len(row) - load.forward
    last = row.numbers[start:]
    middle = row.numbers[load.backward:start]
    return Row.of(last + middle + row.numbers[:load.backward])
