"""Words: tuples of sweeps, which are done one after the other."""

from handsweeps.errors import InvalidWord
from handsweeps.loads import load_within_limit
from handsweeps.sweeps import Backward, Forward


def is_sweep(value):
    """Tell whether any value is a sweep."""
    return isinstance(value, (Forward, Backward))


def is_word(value):
    """Tell whether any value is a word."""
    return isinstance(value, tuple) and all([is_sweep(sweep) for sweep in value])


def check_word(word):
    """Raise InvalidWord for any value that is no word."""
    if not isinstance(word, tuple):
        raise InvalidWord(None)
    for position, value in enumerate(word):
        if not is_sweep(value):
            raise InvalidWord(position)


def load_of(word):
    """Return the load of a word."""
    check_word(word)
    forward, backward = sums_of(word)
    return load_within_limit(forward, backward)


def sums_of(word):
    """Return the sums of the sizes of the forward sweeps and of the backward sweeps, however great."""
    forward = sum([sweep.size for sweep in word if isinstance(sweep, Forward)])
    backward = sum([sweep.size for sweep in word if isinstance(sweep, Backward)])
    return forward, backward


def rows_after(row, word):
    """Yield the row after each sweep of a word, in order."""
    check_word(word)
    now = row
    for sweep in word:
        now = now >> sweep
        yield now
