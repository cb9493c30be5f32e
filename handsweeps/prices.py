"""Price lists, and the words of the least price that reach a staircase."""

from handsweeps.checks import begins_with, is_integer, is_integer_within
from handsweeps.errors import InvalidBudget, InvalidPrices, NotForSale
from handsweeps.hands import Hand
from handsweeps.sweeps import Backward, Forward
from handsweeps.words import check_word, is_word, sums_of

MOST_PRICE = 1000
MOST_BUDGET = 1000000

# In place of a price where nothing is for sale. No floor of 1,200 sweeps in either direction comes near it, and no
# budget either.
OUT_OF_REACH = 10000000


class Prices:
    """What forward sweeps and backward sweeps of some sizes cost."""

    def __init__(self, forward, backward):
        _check_entries("forward", forward)
        _check_entries("backward", backward)
        self._forward = dict(forward)
        self._backward = dict(backward)

    @property
    def forward(self):
        """The dict from the sizes of the forward sweeps that are for sale to their prices."""
        return dict(self._forward)

    @property
    def backward(self):
        """The dict from the sizes of the backward sweeps that are for sale to their prices."""
        return dict(self._backward)

    def price_of(self, word):
        """Return the price of a word."""
        check_word(word)
        prices = [self._price(sweep) for sweep in word]
        if None in prices:
            raise NotForSale(prices.index(None))
        return sum(prices)

    def __call__(self, stairs):
        """Return a word of the least price that reaches a staircase, and floors that show it, or that there is none."""
        price, load, forward, backward = self._cheapest(stairs)
        if price >= OUT_OF_REACH:
            return ("none",)
        return "word", self._cheapest_word(load, forward, backward), forward, backward

    def check(self, stairs, value):
        """Tell whether any value is a tuple that the call could return."""
        if begins_with(value, "none", 1):
            return self.least_price(stairs) is None
        if not begins_with(value, "word", 4) or not self.reaches(stairs, value[1]):
            return False
        return self._shows_least(stairs, value[2], value[3], self.price_of(value[1]))

    def within(self, stairs, budget):
        """Return a word within a budget that reaches a staircase, or floors that show that there is none."""
        _check_budget(budget)
        price, load, forward, backward = self._cheapest(stairs)
        if price <= budget:
            return "word", self._cheapest_word(load, forward, backward)
        return "floors", forward, backward

    def check_within(self, stairs, budget, value):
        """Tell whether any value is a tuple that within could return."""
        _check_budget(budget)
        if begins_with(value, "word", 2):
            return self.reaches(stairs, value[1]) and self.price_of(value[1]) <= budget
        if begins_with(value, "floors", 3):
            return self._shows_least(stairs, value[1], value[2], budget + 1)
        return False

    def least_price(self, stairs):
        """Return the least price of a word that reaches a staircase, or None if none can be bought."""
        price = self._cheapest(stairs)[0]
        return price if price < OUT_OF_REACH else None

    def reaches(self, stairs, value):
        """Tell whether any value is a word that is for sale and reaches a staircase."""
        if not is_word(value) or None in [self._price(sweep) for sweep in value]:
            return False
        forward, backward = sums_of(value)
        return any([forward >= load.forward and backward >= load.backward for load in list(stairs.least())])

    def __eq__(self, other):
        """Tell whether any value is a price list with the same prices."""
        return isinstance(other, Prices) and self._forward == other._forward and self._backward == other._backward

    def _price(self, sweep):
        """Return the price of a sweep, or None if it is not for sale."""
        entries = self._forward if isinstance(sweep, Forward) else self._backward
        return entries.get(sweep.size)

    def _cheapest(self, stairs):
        """Return the least price for a staircase, a least load with it, and the floors up to its greatest numbers."""
        loads = list(stairs.least())
        forward = _floor(self._forward, loads[-1].forward)
        backward = _floor(self._backward, loads[0].backward)
        prices = [forward[load.forward] + backward[load.backward] for load in loads]
        price = min(prices)
        return price, loads[prices.index(price)], forward, backward

    def _cheapest_word(self, load, forward, backward):
        """Return a word with at least the numbers of a load for the prices that floors tell."""
        first = [Forward(size) for size in _sizes(self._forward, forward, load.forward)]
        last = [Backward(size) for size in _sizes(self._backward, backward, load.backward)]
        return tuple(first + last)

    def _shows_least(self, stairs, forward, backward, price):
        """Tell whether any two values are floors that show that no word that reaches a staircase costs less."""
        loads = list(stairs.least())
        if not _is_floor(forward, self._forward, loads[-1].forward):
            return False
        if not _is_floor(backward, self._backward, loads[0].backward):
            return False
        return all([forward[load.forward] + backward[load.backward] >= price for load in loads])


def _check_entries(direction, entries):
    """Raise InvalidPrices for any value that is no dict from sizes to prices."""
    if not isinstance(entries, dict):
        raise InvalidPrices(direction, None)
    for size, price in entries.items():
        if not is_integer_within(size, 1, Hand.MOST) or not is_integer_within(price, 1, MOST_PRICE):
            raise InvalidPrices(direction, size)


def _check_budget(budget):
    """Raise InvalidBudget for any value that is no budget."""
    if not is_integer_within(budget, 0, MOST_BUDGET):
        raise InvalidBudget(budget)


def _floor(entries, most):
    """Return the tuple of the least prices of sweeps with sums of sizes from 0 up to most."""
    floor = [0]
    for reach in range(1, most + 1):
        prices = [price + floor[max(0, reach - size)] for size, price in entries.items()]
        floor.append(min(prices, default=OUT_OF_REACH))
    return tuple(floor)


def _sizes(entries, floor, reach):
    """Return the sizes of sweeps with a sum of at least reach for the price that a floor tells."""
    sizes = []
    left = reach
    while left > 0:
        fitting = [size for size, price in entries.items() if price + floor[max(0, left - size)] == floor[left]]
        sizes.append(fitting[0])
        left = left - fitting[0]
    return sizes


def _is_floor(value, entries, most):
    """Tell whether any value is a floor up to most."""
    if not isinstance(value, tuple) or len(value) != most + 1:
        return False
    if not all([is_integer(number) for number in value]) or value[0] != 0:
        return False
    return all([
        value[reach] <= price + value[max(0, reach - size)]
        for reach in range(1, most + 1) for size, price in entries.items()
    ])
