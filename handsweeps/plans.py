"""Plans: what to ask about an unknown row before a word is bought.

What matters of a log is its pair: the profile of the possible staircase and that of the sure one.
"""

from handsweeps.borders import (
    count_between, is_at_most, is_profile, profile, profiles_between, stairs_of,
)
from handsweeps.checks import begins_with, is_integer, is_integer_within
from handsweeps.errors import InvalidQuestion, LimitExceeded, NothingForSale
from handsweeps.loads import Load
from handsweeps.logs import open_between, with_answer

MOST_NUMBERS_FOR_PLANS = 5
MOST_QUESTION = 1000


class Planner:
    """Finds plans of the least total for a price list and the price of a question."""

    def __init__(self, prices, question):
        if not prices.forward and not prices.backward:
            raise NothingForSale()
        if not is_integer_within(question, 0, MOST_QUESTION):
            raise InvalidQuestion(question)
        self._prices = prices
        self._question = question

    @property
    def prices(self):
        """The price list."""
        return self._prices

    @property
    def question(self):
        """The price of a question."""
        return self._question

    def __call__(self, log):
        """Return a plan of the least total for a log, and a ground that shows that it is least."""
        _check_few_numbers(log)
        pair = _pair_of(log)
        ground = {}
        for smaller in _pairs_within(pair):
            ground[smaller] = min(self._totals(smaller, ground))
        return "plan", ground[pair], self._plan(pair, ground), ground

    def check(self, log, value):
        """Tell whether any value is a tuple that the call could return."""
        _check_few_numbers(log)
        if not begins_with(value, "plan", 4):
            return False
        _, total, plan, ground = value
        pair = _pair_of(log)
        if not is_integer(total) or self._total_of(plan, pair) != total:
            return False
        if not self._is_ground(log.many, ground):
            return False
        return pair in ground and ground[pair] >= total

    def cost_for(self, plan, row):
        """Return what a plan costs for a row that goes with the log."""
        answers, word = follow(plan, row)
        return self._question * len(answers) + self._prices.price_of(word)

    def _totals(self, pair, ground):
        """Return the totals of buying at once, and of asking for each open load, where a ground tells what follows."""
        low, high = pair
        number = count_between(low, high)
        totals = [number * self._prices.least_price(stairs_of(high))]
        for load in open_between(low, high):
            later = [ground.get(other, 0) for other in _pairs_after(pair, load)]
            totals.append(number * self._question + sum(later))
        return totals

    def _plan(self, pair, ground):
        """Return a plan for logs with a pair, where a ground tells the least totals."""
        low, high = pair
        totals = self._totals(pair, ground)
        choice = totals.index(min(totals))
        if choice == 0:
            return "buy", self._prices(stairs_of(high))[1]
        load = open_between(low, high)[choice - 1]
        yes, no = _pairs_after(pair, load)
        return "ask", load, self._plan(yes, ground), self._plan(no, ground)

    def _total_of(self, value, pair):
        """Return the total of any value that is a plan for logs with a pair, None for all others."""
        low, high = pair
        number = count_between(low, high)
        if begins_with(value, "buy", 2) and self._prices.reaches(stairs_of(high), value[1]):
            return number * self._prices.price_of(value[1])
        # A plan is at most as deep as there are open loads, so that no deeper value is looked through.
        if begins_with(value, "ask", 4) and isinstance(value[1], Load) and value[1] in open_between(low, high):
            yes, no = _pairs_after(pair, value[1])
            totals = [self._total_of(value[2], yes), self._total_of(value[3], no)]
            return None if None in totals else number * self._question + sum(totals)
        return None

    def _is_ground(self, many, value):
        """Tell whether any value is a ground for logs about so many numbers."""
        if not isinstance(value, dict):
            return False
        if not all([_is_pair(many, pair) and is_integer(number) for pair, number in value.items()]):
            return False
        return all([number <= min(self._totals(pair, value)) for pair, number in value.items()])


def follow(plan, row):
    """Return the answers that a row gives along a plan, and the word that is bought in the end."""
    answers = []
    now = plan
    while now[0] == "ask":
        _, load, yes, no = now
        answer = (row >> load).is_in_order
        answers.append((load, answer))
        now = yes if answer else no
    return tuple(answers), now[1]


def least_questions(log):
    """Return with how many questions some way of asking settles a log, whatever the row is."""
    _check_few_numbers(log)
    pair = _pair_of(log)
    questions = {}
    for smaller in _pairs_within(pair):
        low, high = smaller
        ways = [
            1 + max([questions[other] for other in _pairs_after(smaller, load)]) for load in open_between(low, high)
        ]
        questions[smaller] = min(ways, default=0)
    return questions[pair]


def _check_few_numbers(log):
    """Raise LimitExceeded for a log about rows of too many numbers."""
    if log.many > MOST_NUMBERS_FOR_PLANS:
        raise LimitExceeded(MOST_NUMBERS_FOR_PLANS)


def _pair_of(log):
    """Return the pair of a log."""
    return profile(log.many, log.possible), profile(log.many, log.sure)


def _pairs_after(pair, load):
    """Return the pairs after the answers True and False for an open load."""
    low, high = pair
    return with_answer(low, high, load, True), with_answer(low, high, load, False)


def _pairs_within(pair):
    """Return all pairs that answers can lead to, each one behind those that further answers lead to."""
    low, high = pair
    values = list(profiles_between(low, high))
    pairs = [(one, other) for one in values for other in values if is_at_most(one, other)]
    return sorted(pairs, key=_how_many_open)


def _how_many_open(pair):
    """Return how many loads are open."""
    low, high = pair
    return sum(high) - sum(low)


def _is_pair(many, value):
    """Tell whether any value is a pair of profiles of so many numbers that a log may have."""
    if not isinstance(value, tuple) or len(value) != 2:
        return False
    return is_profile(many, value[0]) and is_profile(many, value[1]) and is_at_most(value[0], value[1])
