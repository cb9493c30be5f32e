"""Courses: sweeps of a row, one after the other, that can be taken back."""

from handsweeps.errors import InvalidSweep, NothingToUndo, OverBudget
from handsweeps.loads import Load, check_load
from handsweeps.staircases import Staircase
from handsweeps.words import is_sweep, load_of


class Course:
    """The sweeps of a row so far, with a load as their budget, or with none."""

    def __init__(self, row, *, budget=None):
        if budget is not None:
            check_load(budget)
        self._budget = budget
        # What changes is kept in tuples and in one load, so that an attempt is undone by putting them back.
        self._rows = (row,)
        self._word = ()
        self._total = Load(0, 0)

    @property
    def now(self):
        """The row after the sweeps so far."""
        return self._rows[-1]

    @property
    def word(self):
        """The tuple of the sweeps so far."""
        return self._word

    @property
    def total(self):
        """The load of the sweeps so far."""
        return self._total

    @property
    def left(self):
        """The staircase of the row after the sweeps so far."""
        return Staircase.of_row(self._rows[-1])

    def do(self, sweep):
        """Do a sweep, and return the row after it."""
        if not is_sweep(sweep):
            raise InvalidSweep(sweep)
        total = self._total + load_of((sweep,))
        if self._budget is not None and not self._budget.covers(total):
            raise OverBudget(total)
        row = self._rows[-1] >> sweep
        self._rows = self._rows + (row,)
        self._word = self._word + (sweep,)
        self._total = total
        return row

    def undo(self):
        """Take the latest sweep back, and return it."""
        if not self._word:
            raise NothingToUndo()
        sweep = self._word[-1]
        load = load_of((sweep,))
        self._rows = self._rows[:-1]
        self._word = self._word[:-1]
        self._total = Load(self._total.forward - load.forward, self._total.backward - load.backward)
        return sweep

    def history(self):
        """Yield the rows, from the first one to the present one."""
        yield from self._rows

    def attempt(self, function):
        """Return what a function returns for the course, and take back all that it did to it."""
        rows, word, total = self._rows, self._word, self._total
        try:
            return function(self)
        finally:
            self._rows, self._word, self._total = rows, word, total

    def __len__(self):
        """Return how many sweeps were done."""
        return len(self._word)
