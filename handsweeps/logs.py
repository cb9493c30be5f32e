"""Logs: what answers tell about an unknown row, and askers, who find its staircase.

What is known about the row are two profiles: low is that of the loads that are not hopeless, high that of the sure
ones. Low is nowhere above high, and the open loads lie between them.
"""

from handsweeps.borders import (
    count_between, is_at_most, order_for, outer_profiles, profile, profile_between, stairs_of,
)
from handsweeps.checks import begins_with, is_integer_within
from handsweeps.errors import (
    Broken, InvalidAnswer, InvalidRank, LimitExceeded, NothingToAsk, NothingToUndo, OtherCount, WrongRow,
)
from handsweeps.loads import Load, check_load
from handsweeps.rows import Row, check_count
from handsweeps.staircases import Staircase


class Log:
    """Answers whether an unknown row of so many numbers is in order after loads."""

    MOST = 400

    def __init__(self, many):
        check_count(many)
        self._many = many
        self._answers = ()
        self._low, self._high = outer_profiles(many)

    @classmethod
    def between(cls, many, possible, sure):
        """Return the log of two staircases, the sure one within the possible one."""
        low, high = profile(many, possible), profile(many, sure)
        for forward in range(many):
            if low[forward] > high[forward]:
                raise Broken(Load(forward, high[forward]))
        log = cls(many)
        for load, answer in _needed_answers(many, possible, sure):
            log.tell(load, answer)
        return log

    @classmethod
    def of_batch(cls, batch):
        """Return the log that all rows of a batch go with, with the staircase of the batch and the union of theirs."""
        rows = batch.rows
        if any([len(row) != len(rows[0]) for row in rows]):
            raise OtherCount()
        possible = Staircase.of_row(rows[0])
        for row in rows[1:]:
            possible = possible | Staircase.of_row(row)
        return cls.between(len(rows[0]), possible, batch.staircase())

    @property
    def many(self):
        """How many numbers the row has."""
        return self._many

    @property
    def answers(self):
        """The tuple of the pairs of a load and its answer, in order."""
        return self._answers

    @property
    def sure(self):
        """The staircase of the sure loads."""
        return stairs_of(self._high)

    @property
    def possible(self):
        """The staircase of the loads that are not hopeless."""
        return stairs_of(self._low)

    @property
    def is_settled(self):
        """Whether no load is open."""
        return self._low == self._high

    def copy(self):
        """Return an equal log of its own."""
        log = Log(self._many)
        log._answers = self._answers
        log._low, log._high = self._low, self._high
        return log

    def tell(self, load, answer):
        """Add an answer."""
        check_load(load)
        _check_answer(answer)
        if self._contradicts(load, answer):
            raise Broken(load)
        if len(self._answers) >= Log.MOST:
            raise LimitExceeded(Log.MOST)
        self._take(load, answer)

    def undo(self):
        """Take the latest answer away."""
        if not self._answers:
            raise NothingToUndo()
        answers = self._answers[:-1]
        self._answers = ()
        self._low, self._high = outer_profiles(self._many)
        for load, answer in answers:
            self._take(load, answer)

    def state(self, load):
        """Return whether a load is sure, hopeless or open."""
        check_load(load)
        # With so great a forward number every load is sure.
        if load.forward >= self._many or load.backward >= self._high[load.forward]:
            return "sure"
        if load.backward < self._low[load.forward]:
            return "hopeless"
        return "open"

    def ask(self, load):
        """Return the state of a load with what shows it."""
        state = self.state(load)
        if state == "open":
            return "open", self.best(), self.worst()
        if state == "hopeless":
            covering = [other for other, answer in self._answers if not answer and other.covers(load)]
            return "hopeless", covering[0]
        covered = [other for other, answer in self._answers if answer and load.covers(other)]
        return "sure", (covered[0] if covered else None)

    def check(self, load, value):
        """Tell whether any value is a tuple that ask could return."""
        check_load(load)
        if begins_with(value, "sure", 2):
            if value[1] is None:
                return load.forward + load.backward >= self._many - 1
            return self._has_answer(value[1], True) and load.covers(value[1])
        if begins_with(value, "hopeless", 2):
            return self._has_answer(value[1], False) and value[1].covers(load)
        if begins_with(value, "open", 3):
            return self._is_row_with(value[1], load, True) and self._is_row_with(value[2], load, False)
        return False

    def parts(self, load):
        """Return how many staircases of rows that go with the log have a load, and how many do not."""
        check_load(load)
        low, high = with_answer(self._low, self._high, load, True)
        having = count_between(low, high)
        return having, self.how_many() - having

    def goes_with(self, row):
        """Tell whether all answers are true of a row, and it has as many numbers."""
        if len(row) != self._many:
            return False
        values = profile(self._many, Staircase.of_row(row))
        return is_at_most(self._low, values) and is_at_most(values, self._high)

    def worst(self):
        """Return an order with the sure staircase."""
        return order_for(self._many, self.sure)

    def best(self):
        """Return an order with the possible staircase."""
        return order_for(self._many, self.possible)

    def how_many(self):
        """Return how many staircases rows that go with the log have."""
        return count_between(self._low, self._high)

    def by_rank(self, rank):
        """Return the one of these staircases that has so many of them before it."""
        if not is_integer_within(rank, 0, self.how_many() - 1):
            raise InvalidRank(rank)
        return stairs_of(profile_between(self._low, self._high, rank))

    def open_loads(self):
        """Yield the open loads, by ascending forward numbers, and then by ascending backward numbers."""
        yield from open_between(self._low, self._high)

    def halving(self):
        """Return the first open load for which the greater one of its parts is least, or None."""
        loads = open_between(self._low, self._high)
        if not loads:
            return None
        greater = [max(self.parts(load)) for load in loads]
        return loads[greater.index(min(greater))]

    def missing(self, row):
        """Return the tuple of the loads that still need an answer if the row is this one."""
        if not self.goes_with(row):
            raise WrongRow()
        stairs = Staircase.of_row(row)
        needed = [load for load, _ in _needed_answers(self._many, stairs, stairs) if self.state(load) == "open"]
        pairs = sorted([(load.forward, load.backward) for load in needed])
        return tuple([Load(forward, backward) for forward, backward in pairs])

    def core(self):
        """Return the tuple of the positions of the answers of the core."""
        # By [66] these are the first ones of the answers that make up the log of both staircases.
        needed = _needed_answers(self._many, self.possible, self.sure)
        return tuple([
            position for position, answer in enumerate(self._answers)
            if answer in needed and answer not in self._answers[:position]
        ])

    def after(self, load):
        """Return the log of what is known of the row after a load."""
        check_load(load)
        return Log.between(self._many, self.possible.shifted(load), self.sure.shifted(load))

    def joined(self, other):
        """Return a log with the answers of this log, and then those of another one."""
        if self._many != other._many:
            raise OtherCount()
        log = self.copy()
        answers = other.answers
        for load, answer in answers:
            if log._contradicts(load, answer):
                raise Broken(load)
            log._take(load, answer)
        if len(log) > Log.MOST:
            raise LimitExceeded(Log.MOST)
        return log

    def __len__(self):
        """Return how many answers there are."""
        return len(self._answers)

    def __eq__(self, other):
        """Tell whether any value is a log about as many numbers with the same answers."""
        return isinstance(other, Log) and self._many == other._many and self._answers == other._answers

    def _contradicts(self, load, answer):
        """Tell whether an answer contradicts what is known."""
        return self.state(load) == ("hopeless" if answer else "sure")

    def _take(self, load, answer):
        """Add an answer that contradicts nothing."""
        self._answers = self._answers + ((load, answer),)
        self._low, self._high = with_answer(self._low, self._high, load, answer)

    def _has_answer(self, value, answer):
        """Tell whether any value is a load that has an answer."""
        return isinstance(value, Load) and (value, answer) in self._answers

    def _is_row_with(self, value, load, answer):
        """Tell whether any value is a row that goes with the log, and gives an answer for a load."""
        return isinstance(value, Row) and self.goes_with(value) and (value >> load).is_in_order == answer


class Asker:
    """Asks about an unknown row until its staircase is settled."""

    def __init__(self, many):
        self._log = Log(many)

    @classmethod
    def of(cls, log):
        """Return an asker that goes on from a copy of a log."""
        asker = cls(log.many)
        asker._log = log.copy()
        return asker

    @property
    def next_load(self):
        """The load that is asked, or None at the end."""
        # Later answers do not change the states of the loads walked past, so that the walk can start anew each time.
        forward, backward = 0, self._log.many - 2
        while backward >= 0:
            load = Load(forward, backward)
            state = self._log.state(load)
            if state == "open":
                return load
            if state == "sure":
                backward -= 1
            else:
                forward += 1
        return None

    def tell(self, answer):
        """Give the answer for the load that is asked."""
        _check_answer(answer)
        load = self.next_load
        if load is None:
            raise NothingToAsk()
        self._log.tell(load, answer)

    def log(self):
        """Return a copy of the log."""
        return self._log.copy()


def spread(prices, log):
    """Return the least prices of words that reach the possible and the sure staircase, None where there is none."""
    return prices.least_price(log.possible), prices.least_price(log.sure)


def with_answer(low, high, load, answer):
    """Return both profiles after one more answer."""
    if answer:
        return low, high[:load.forward] + tuple([min(value, load.backward) for value in high[load.forward:]])
    end = load.forward + 1
    return tuple([max(value, load.backward + 1) for value in low[:end]]) + low[end:], high


def open_between(low, high):
    """Return the list of the open loads, by ascending forward numbers, and then by ascending backward numbers."""
    return [Load(forward, backward) for forward in range(len(low)) for backward in range(low[forward], high[forward])]


def _needed_answers(many, possible, sure):
    """Return the list of the answers of the log of two staircases ([65])."""
    yes = [(load, True) for load in list(sure.least()) if load.forward + load.backward < many - 1]
    no = [(Load(forward - 1, backward - 1), False) for forward, backward in possible.corners()]
    return yes + no


def _check_answer(answer):
    """Raise InvalidAnswer for any value that is neither True nor False."""
    if not isinstance(answer, bool):
        raise InvalidAnswer(answer)
