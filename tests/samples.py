"""Values for the tests, and what the document says in its plainest form."""

import operator
from itertools import product
from random import Random

from handsweeps.cuts import Cut
from handsweeps.errors import InvalidSize
from handsweeps.hands import Hand
from handsweeps.loads import Load
from handsweeps.logs import Log
from handsweeps.rows import Row
from handsweeps.staircases import Staircase
from handsweeps.sweeps import Backward, Forward

OPERATORS = (
    operator.add, operator.sub, operator.mul, operator.floordiv, operator.mod, operator.pow, operator.and_,
    operator.or_, operator.xor, operator.lshift, operator.rshift, operator.lt, operator.le, operator.gt,
    operator.ge, operator.truediv, divmod,
)


class GivesSignsAMeaning:
    """An object that takes part in the operators of others, and is equal to everything."""

    def __radd__(self, other):
        return "sum"

    __rsub__ = __rmul__ = __rand__ = __ror__ = __rlshift__ = __rrshift__ = __radd__

    def __eq__(self, other):
        return True


def not_integers():
    """New values of every kind that are no integers."""
    return [
        True, False, None, "", "1", "a", b"", b"1", (), (1,), (1, 2), [], [1], {}, {1: 1}, {1}, slice(0, 1),
        object(), int, Row, Row(1), Hand(1), Forward(1), Backward(1), Load(1, 0), Cut(1, 0), InvalidSize(1),
        Staircase(Load(0, 0)), Staircase, not_integers,
    ]


def wrong_sizes():
    """New values of every kind that are no sizes."""
    return not_integers() + [0, 21, 22, -1, -20, 1000, 10 ** 999, -10 ** 999]


def values_of_every_kind():
    """New values of every kind, those that equal everything among them."""
    return not_integers() + [0, 1, -1, 20, 21, 1000, 1200, 1201, 10 ** 999, -10 ** 999, GivesSignsAMeaning()]


def small_rows(most):
    """The numbers of all rows of at most so many numbers from 0 to 2."""
    return [numbers for many in range(1, most + 1) for numbers in product(range(3), repeat=many)]


def mixed_rows(many):
    """The numbers of so many rows, of all lengths, with few and with many different numbers."""
    random = Random(20)
    rows = []
    for position in range(many):
        reach = random.choice([1, 3, 10, 999])
        rows.append(tuple(random.randint(-reach, reach) for _ in range(position % 20 + 1)))
    return rows


def answers_of_hand(numbers, size, small):
    """What a hand lays down for each number, and at the end ([11])."""
    held = []
    answers = []
    for number in numbers:
        held.append(number)
        answer = None
        if len(held) > size:
            answer = max(held) if small else min(held)
            held.remove(answer)
        answers.append(answer)
    return answers, sorted(held, reverse=small)


def swept(numbers, size, backward):
    """The numbers after a sweep, as a tuple ([12])."""
    given = numbers[::-1] if backward else numbers
    answers, at_end = answers_of_hand(given, size, backward)
    laid = [number for number in answers if number is not None] + at_end
    return tuple(laid[::-1] if backward else laid)


def letters(numbers, bound):
    """The letters for a bound: 1 for great numbers, 0 for small ones."""
    return [int(number >= bound) for number in numbers]


def without_first(items, item, many):
    """The items without the first so many ones that equal an item."""
    left = list(items)
    for _ in range(min(many, left.count(item))):
        left.remove(item)
    return left


def letters_after(old, forward, backward):
    """What becomes of letters after a load ([21])."""
    ones = min(forward, old.count(1))
    zeros = min(backward, old.count(0))
    left = without_first(without_first(old, 1, ones)[::-1], 0, zeros)[::-1]
    return [0] * zeros + left + [1] * ones


def after_load(numbers, forward, backward):
    """The numbers after a load, as a tuple: at each place the greatest one whose letter there is 1 ([21])."""
    found = [None] * len(numbers)
    for bound in sorted(set(numbers)):
        for place, letter in enumerate(letters_after(letters(numbers, bound), forward, backward)):
            if letter == 1:
                found[place] = bound
    return tuple(found)


def counts_of_cuts(numbers):
    """The counts of all cuts ([14]); other bounds have the letters of one of these."""
    pairs = set()
    for bound in {number + step for number in numbers for step in (0, 1)}:
        for place in range(len(numbers) + 1):
            great = [number for number in numbers[:place] if number >= bound]
            small = [number for number in numbers[place:] if number < bound]
            pairs.add((len(great), len(small)))
    return pairs


def is_beyond_no_cut(numbers, pair):
    """Whether no cut has greater counts than the numbers of a load ([22])."""
    return not any(great > pair[0] and small > pair[1] for great, small in counts_of_cuts(numbers))


def pairs_of(loads):
    """The pairs of the numbers of loads."""
    return [(load.forward, load.backward) for load in loads]


def operators_of(*allowed):
    """All operators of two values except some."""
    return [act for act in OPERATORS if act not in allowed]


def loads_up_to(most):
    """The pairs of numbers of all loads whose numbers are both at most so great."""
    return list(product(range(most + 1), repeat=2))


def loads_near(many):
    """The pairs of numbers of small loads, of loads near a length, and of the greatest ones."""
    numbers = {0, 1, 2, 3, many // 2, many - 1, many, many + 1, 19, 20, 21, 40, 1199, 1200}
    return list(product(sorted(numbers), repeat=2))


def words_with(forward, backward):
    """All words with a load."""
    if forward == backward == 0:
        return [()]
    words = []
    for kind, most in ((Forward, forward), (Backward, backward)):
        for size in range(1, min(most, 20) + 1):
            left = (forward - size, backward) if kind is Forward else (forward, backward - size)
            words += [(kind(size), *word) for word in words_with(*left)]
    return words


def mixed_word(forward, backward, most):
    """A word with a load, of sizes up to the given one, parted and put in order by chance."""
    random = Random(forward * 2000 + backward)
    sweeps = []
    for kind, left in ((Forward, forward), (Backward, backward)):
        while left:
            size = random.randint(1, min(most, left))
            sweeps.append(kind(size))
            left -= size
    random.shuffle(sweeps)
    return tuple(sweeps)


def profiles(many):
    """All tuples that [41] calls profiles, in Python's order."""
    found = []
    for values in product(*[range(many - position) for position in range(many)]):
        if all(after <= before for before, after in zip(values, values[1:])):
            found.append(values)
    return found


def stairs_with(values):
    """The staircase with a profile, from its least loads ([40])."""
    loads = [
        Load(forward, backward) for forward, backward in enumerate(values)
        if forward == 0 or backward < values[forward - 1]
    ]
    return Staircase(*loads)


def chance_profiles(many, times):
    """Profiles of so many numbers of mixed shapes, by chance."""
    random = Random(many)
    found = [(0,) * many, tuple(range(many - 1, -1, -1))]
    for _ in range(times):
        values = []
        most = many - 1
        for position in range(many):
            most = min(most, many - 1 - position)
            values.append(random.choice([most, most, max(0, most - 1), random.randint(0, most)]))
            most = values[-1]
        found.append(tuple(values))
    return found


def covers(one, other):
    """Whether a load covers another one ([13]), both as pairs of numbers."""
    return one[0] >= other[0] and one[1] >= other[1]


def state_of(many, answers, pair):
    """The state of a load after answers, which are pairs of a load's numbers and True or False ([60])."""
    if sum(pair) >= many - 1 or any(covers(pair, load) for load, answer in answers if answer):
        return "sure"
    if any(covers(load, pair) for load, answer in answers if not answer):
        return "hopeless"
    return "open"


def has_load(values, pair):
    """Whether the staircase with a profile has a load ([40])."""
    return pair[0] >= len(values) or pair[1] >= values[pair[0]]


def going_with(many, answers):
    """The profiles of all staircases of rows that go with answers, in Python's order ([60])."""
    return [
        values for values in profiles(many) if all(has_load(values, pair) is answer for pair, answer in answers)
    ]


def log_with(many, answers):
    """A log with answers."""
    log = Log(many)
    for pair, answer in answers:
        log.tell(Load(*pair), answer)
    return log


def chance_answers(many, times, seed, most=None):
    """So many answers that contradict nothing, by chance, needless ones and known ones among them."""
    random = Random(seed)
    values = random.choice(chance_profiles(many, 30))
    answers = []
    for _ in range(times):
        pair = random.randint(0, most or many), random.randint(0, most or many)
        if answers and random.random() < 0.2:
            pair = random.choice(answers)[0]
        answers.append((pair, has_load(values, pair)))
    return answers


def small_logs():
    """Pairs of how many numbers a row has, and answers, for rows of few numbers."""
    logs = [(many, ()) for many in range(1, 6)]
    for many in range(1, 6):
        for times in (1, 2, 3, 5, 9):
            logs += [(many, tuple(chance_answers(many, times, seed))) for seed in range(8)]
    return logs
