"""Module handsweeps.loads: points [1] to [4] and [13]."""

import operator
import unittest

from handsweeps.errors import InvalidLoad, LimitExceeded, SweepError
from handsweeps.loads import Load
from handsweeps.rows import Row
from handsweeps.sweeps import Forward
from tests.samples import GivesSignsAMeaning, loads_up_to, not_integers

OPERATORS = (
    operator.add, operator.sub, operator.mul, operator.floordiv, operator.mod, operator.pow, operator.and_,
    operator.or_, operator.xor, operator.lshift, operator.rshift, operator.lt, operator.le, operator.gt,
    operator.ge, operator.truediv, divmod,
)
NUMBERS = (0, 1, 2, 3, 599, 600, 601, 1198, 1199, 1200)
PAIRS = [(forward, backward) for forward in NUMBERS for backward in NUMBERS]


def wrong_numbers():
    """New values of every kind that are no numbers of loads."""
    return not_integers() + [-1, 1201, 1202, -2, -1200, 10 ** 999, -10 ** 999, GivesSignsAMeaning()]


def numbers_of(load):
    return load.forward, load.backward


class Creating(unittest.TestCase):

    def test_all_numbers(self):
        for number in range(1201):
            self.assertEqual(numbers_of(Load(number, 0)), (number, 0))
            self.assertEqual(numbers_of(Load(0, number)), (0, number))
            self.assertEqual(numbers_of(Load(number, 1200 - number)), (number, 1200 - number))
            self.assertEqual(numbers_of(Load(number, 1200)), (number, 1200))
            self.assertEqual(numbers_of(Load(1200, number)), (1200, number))

    def test_most(self):
        self.assertEqual([Load.MOST, Load(1, 2).MOST], [1200, 1200])

    def test_by_name(self):
        self.assertEqual(numbers_of(Load(forward=3, backward=7)), (3, 7))
        self.assertEqual(numbers_of(Load(backward=7, forward=3)), (3, 7))
        self.assertEqual(numbers_of(Load(3, backward=7)), (3, 7))
        self.assertRaises(TypeError, Load)
        self.assertRaises(TypeError, Load, 1)
        self.assertRaises(TypeError, Load, 1, 2, 3)

    def check_error(self, value, act):
        with self.assertRaises(InvalidLoad) as caught:
            act()
        self.assertIs(caught.exception.value, value)
        self.assertIsInstance(caught.exception, SweepError)

    def test_wrong_forward_numbers_come_first(self):
        for value in wrong_numbers():
            for other in [0, 5, 1200] + wrong_numbers():
                with self.subTest(value=value, other=other):
                    self.check_error(value, lambda: Load(value, other))
            self.check_error(value, lambda: Load(backward=[1], forward=value))

    def test_wrong_backward_numbers(self):
        for value in wrong_numbers():
            for forward in (0, 5, 1200):
                with self.subTest(value=value, forward=forward):
                    self.check_error(value, lambda: Load(forward, value))
                    self.check_error(value, lambda: Load(backward=value, forward=forward))


class Equality(unittest.TestCase):

    def test_loads(self):
        for one in PAIRS:
            for other in PAIRS:
                self.assertIs(Load(*one) == Load(*other), one == other)
                self.assertIs(Load(*one) != Load(*other), one != other)

    def test_values_of_other_kinds(self):
        load = Load(1, 2)
        for value in not_integers() + [1, 0, 3, (1, 2), [1, 2], Load(2, 1), Row(1, 2), Forward(1)]:
            with self.subTest(value=value):
                self.assertIs(load == value, False)
                self.assertIs(load != value, True)
                self.assertIs(value == load, False)
                self.assertIs(value != load, True)
        self.assertIs(load == GivesSignsAMeaning(), False)
        self.assertIs(load != GivesSignsAMeaning(), True)


class Covering(unittest.TestCase):

    def test_loads(self):
        for one in PAIRS:
            for other in PAIRS:
                expected = one[0] >= other[0] and one[1] >= other[1]
                self.assertIs(Load(*one).covers(Load(*other)), expected)

    def test_a_load_covers_itself(self):
        load = Load(4, 5)
        self.assertIs(load.covers(load), True)

    def test_by_name(self):
        self.assertIs(Load(4, 5).covers(other=Load(4, 4)), True)
        self.assertIs(Load(4, 5).covers(other=Load(5, 4)), False)


class OneLoad(unittest.TestCase):

    def test_truth(self):
        for numbers in PAIRS:
            self.assertIs(bool(Load(*numbers)), numbers != (0, 0))

    def test_exchanged_numbers(self):
        for forward, backward in PAIRS:
            load = Load(forward, backward)
            self.assertEqual(numbers_of(-load), (backward, forward))
            self.assertEqual(numbers_of(load), (forward, backward))
            self.assertIs(type(-load), Load)

    def test_other_signs(self):
        self.assertRaises(TypeError, lambda: +Load(1, 2))
        self.assertRaises(TypeError, lambda: ~Load(1, 2))
        self.assertRaises(TypeError, abs, Load(1, 2))


class Adding(unittest.TestCase):

    def test_sums(self):
        for one in PAIRS:
            for other in PAIRS:
                first, second = Load(*one), Load(*other)
                sums = one[0] + other[0], one[1] + other[1]
                if max(sums) <= 1200:
                    self.assertEqual(numbers_of(first + second), sums)
                else:
                    with self.assertRaises(LimitExceeded) as caught:
                        first + second
                    self.assertEqual(caught.exception.limit, 1200)
                self.assertEqual([numbers_of(first), numbers_of(second)], [one, other])

    def test_at_the_limit(self):
        self.assertEqual(numbers_of(Load(1200, 0) + Load(0, 1200)), (1200, 1200))
        self.assertEqual(numbers_of(Load(1, 1200) + Load(1199, 0)), (1200, 1200))
        self.assertRaises(LimitExceeded, lambda: Load(1200, 0) + Load(1, 0))
        self.assertRaises(LimitExceeded, lambda: Load(0, 1) + Load(0, 1200))

    def test_a_load_and_itself(self):
        load = other = Load(3, 4)
        load += load
        self.assertEqual([numbers_of(load), numbers_of(other)], [(6, 8), (3, 4)])


class Multiplying(unittest.TestCase):

    def test_products(self):
        for numbers in PAIRS:
            for times in (0, 1, 2, 3, 5, 399, 400, 600, 1199, 1200, 1201, 10 ** 6, 10 ** 999):
                load = Load(*numbers)
                products = numbers[0] * times, numbers[1] * times
                for act in (lambda: load * times, lambda: times * load):
                    if max(products) <= 1200:
                        self.assertIs(type(act()), Load)
                        self.assertEqual(numbers_of(act()), products)
                    else:
                        with self.assertRaises(LimitExceeded) as caught:
                            act()
                        self.assertEqual(caught.exception.limit, 1200)
                self.assertEqual(numbers_of(load), numbers)

    def test_wrong_times(self):
        for value in not_integers() + [-1, -2, -10 ** 999, GivesSignsAMeaning()]:
            for load in (Load(0, 0), Load(1, 2)):
                with self.subTest(value=value):
                    self.assertRaises(TypeError, lambda: load * value)
                    self.assertRaises(TypeError, lambda: value * load)


class LesserAndGreater(unittest.TestCase):

    def test_loads(self):
        for one in PAIRS:
            for other in PAIRS:
                first, second = Load(*one), Load(*other)
                lesser = min(one[0], other[0]), min(one[1], other[1])
                greater = max(one[0], other[0]), max(one[1], other[1])
                self.assertEqual(numbers_of(first & second), lesser)
                self.assertEqual(numbers_of(first | second), greater)
                self.assertEqual([numbers_of(first), numbers_of(second)], [one, other])

    def test_with_covering(self):
        for one in loads_up_to(3):
            for other in loads_up_to(3):
                first, second = Load(*one), Load(*other)
                self.assertIs(first.covers(second), first & second == second)
                self.assertIs(first.covers(second), first | second == first)


class Operators(unittest.TestCase):

    def is_described(self, act, value):
        if act is operator.mul:
            return type(value) is int and value >= 0
        return act in (operator.add, operator.and_, operator.or_) and isinstance(value, Load)

    def test_other_values(self):
        load = Load(1, 2)
        for value in not_integers() + [0, 1, 2, -1, 1201, 10 ** 999, [1, 2], {1: 2}, Row(1, 2)]:
            for act in OPERATORS:
                if self.is_described(act, value):
                    continue
                with self.subTest(act=act, value=value):
                    self.assertRaises(TypeError, act, load, value)
                    is_row_after = act is operator.rshift and isinstance(value, Row)
                    if not is_row_after:
                        self.assertRaises(TypeError, act, value, load)
        self.assertEqual(numbers_of(load), (1, 2))

    def test_values_that_give_the_signs_a_meaning(self):
        self.assertRaises(TypeError, lambda: Load(1, 2) + GivesSignsAMeaning())
        self.assertRaises(TypeError, lambda: Load(1, 2) * GivesSignsAMeaning())
        self.assertRaises(TypeError, lambda: Load(1, 2) & GivesSignsAMeaning())
        self.assertRaises(TypeError, lambda: Load(1, 2) | GivesSignsAMeaning())

    def test_a_load_is_no_sum_of_integers(self):
        self.assertRaises(TypeError, sum, [Load(1, 2), Load(1, 2)])
        self.assertRaises(TypeError, lambda: 0 + Load(1, 2))
        self.assertRaises(TypeError, lambda: Load(1, 2) * Load(1, 2))


if __name__ == "__main__":
    unittest.main()
