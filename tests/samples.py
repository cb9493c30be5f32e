"""Values for the tests, and what the document says in its plainest form."""

from itertools import product
from random import Random

from handsweeps.errors import InvalidSize
from handsweeps.hands import Hand
from handsweeps.rows import Row
from handsweeps.sweeps import Backward, Forward


def not_integers():
    """New values of every kind that are no integers."""
    return [
        True, False, None, "", "1", "a", b"", b"1", (), (1,), (1, 2), [], [1], {}, {1: 1}, {1}, slice(0, 1),
        object(), int, Row, Row(1), Hand(1), Forward(1), Backward(1), InvalidSize(1), not_integers,
    ]


def wrong_sizes():
    """New values of every kind that are no sizes."""
    return not_integers() + [0, 21, 22, -1, -20, 1000, 10 ** 999, -10 ** 999]


def small_rows(most):
    """The numbers of all rows of at most so many numbers from 0 to 2."""
    return [numbers for many in range(1, most + 1) for numbers in product(range(3), repeat=many)]


def mixed_rows(many):
    """The numbers of so many rows, of all lengths, with few and with many different numbers."""
    random = Random(20)
    rows = []
    for position in range(many):
        reach = random.choice([1, 3, 10, 999])
        rows.append(tuple(random.randint(-reach, reach) for _ in range(position % 20 + 1)))
    return rows


def answers_of_hand(numbers, size, small):
    """What a hand lays down for each number, and at the end ([11])."""
    held = []
    answers = []
    for number in numbers:
        held.append(number)
        answer = None
        if len(held) > size:
            answer = max(held) if small else min(held)
            held.remove(answer)
        answers.append(answer)
    return answers, sorted(held, reverse=small)


def swept(numbers, size, backward):
    """The numbers after a sweep, as a tuple ([12])."""
    given = numbers[::-1] if backward else numbers
    answers, at_end = answers_of_hand(given, size, backward)
    laid = [number for number in answers if number is not None] + at_end
    return tuple(laid[::-1] if backward else laid)


def letters(numbers, bound):
    """The letters for a bound: 1 for great numbers, 0 for small ones."""
    return [int(number >= bound) for number in numbers]


def without_first(items, item, many):
    """The items without the first so many ones that equal an item."""
    left = list(items)
    for _ in range(min(many, left.count(item))):
        left.remove(item)
    return left
