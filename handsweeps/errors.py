"""The errors that the package raises."""


class SweepError(ValueError):
    """The base class of all errors of the package; it is never raised itself."""


class InvalidRow(SweepError):
    """The values at hand make no row.

    position is that of the first wrong value, or None where the values as a whole are wrong.
    """

    def __init__(self, position):
        self.position = position


class InvalidPlace(SweepError):
    """A value is no place of a row, or no position of a batch."""

    def __init__(self, value):
        self.value = value


class InvalidSize(SweepError):
    """A value is no size of a hand or of a sweep."""

    def __init__(self, value):
        self.value = value


class InvalidLoad(SweepError):
    """A value is no load, or no number of one."""

    def __init__(self, value):
        self.value = value


class InvalidWord(SweepError):
    """A value is no word.

    position is that of the first value that is no sweep, or None for what is no tuple.
    """

    def __init__(self, position):
        self.position = position


class InvalidCut(SweepError):
    """A value is no cut of a row, no place or no bound of one."""

    def __init__(self, value):
        self.value = value


class InvalidStairs(SweepError):
    """The loads or corners at hand make no staircase.

    position is that of the first wrong one, or None where they are wrong as a whole.
    """

    def __init__(self, position):
        self.position = position


class InvalidCount(SweepError):
    """A value does not say how many numbers a row has."""

    def __init__(self, value):
        self.value = value


class InvalidSweep(SweepError):
    """A value is no sweep."""

    def __init__(self, value):
        self.value = value


class OverBudget(SweepError):
    """A course would have a load that its budget does not cover."""

    def __init__(self, load):
        self.load = load


class NothingToUndo(SweepError):
    """There is nothing left that can be taken back."""


class LimitExceeded(SweepError):
    """Something would become greater than its limit."""

    def __init__(self, limit):
        self.limit = limit


class InvalidProfile(SweepError):
    """The values at hand are no profile.

    position is the first one at which they are wrong, or None where they are wrong as a whole.
    """

    def __init__(self, position):
        self.position = position


class NotOfCount(SweepError):
    """A staircase lacks a load that all staircases of so many numbers have."""

    def __init__(self, load):
        self.load = load


class InvalidRank(SweepError):
    """A value is no rank."""

    def __init__(self, value):
        self.value = value


class InvalidPrices(SweepError):
    """The prices for one direction make no price list.

    key is the first wrong one, or None for what is no dict.
    """

    def __init__(self, direction, key):
        self.direction = direction
        self.key = key


class NotForSale(SweepError):
    """The sweep at a position of a word is not for sale."""

    def __init__(self, position):
        self.position = position


class InvalidBudget(SweepError):
    """A value is no budget."""

    def __init__(self, value):
        self.value = value


class InvalidBatch(SweepError):
    """The values at hand make no batch.

    position is that of the first value that is no row, or None where they are wrong as a whole.
    """

    def __init__(self, position):
        self.position = position


class InvalidAnswer(SweepError):
    """A value is neither True nor False."""

    def __init__(self, value):
        self.value = value


class Broken(SweepError):
    """The answers for a load contradict each other."""

    def __init__(self, load):
        self.load = load


class OtherCount(SweepError):
    """Rows or logs do not have the same number of numbers."""


class WrongRow(SweepError):
    """A row does not go with a log."""


class NothingToAsk(SweepError):
    """An asker has ended."""


class NothingForSale(SweepError):
    """A price list has no prices."""


class InvalidQuestion(SweepError):
    """A value is no price of a question."""

    def __init__(self, value):
        self.value = value
