"""Module handsweeps.rows: points [4], [10], [12] and [26]."""

import operator
import unittest

from handsweeps.errors import InvalidPlace, InvalidRow, SweepError
from handsweeps.hands import Hand
from handsweeps.loads import Load
from handsweeps.rows import Row
from handsweeps.sweeps import Backward, Forward
from tests.samples import GivesSignsAMeaning, mixed_rows, not_integers, small_rows

OPERATORS = (
    operator.add, operator.sub, operator.mul, operator.floordiv, operator.mod, operator.pow, operator.and_,
    operator.or_, operator.xor, operator.lshift, operator.rshift, operator.lt, operator.le, operator.gt,
    operator.ge,
)


class Creating(unittest.TestCase):

    def position_of(self, values):
        """The position in the error, which both ways of creating a row must raise."""
        with self.assertRaises(InvalidRow) as caught:
            Row(*values)
        with self.assertRaises(InvalidRow) as caught_of:
            Row.of(tuple(values))
        self.assertIsInstance(caught.exception, SweepError)
        self.assertEqual(caught.exception.position, caught_of.exception.position)
        return caught.exception.position

    def test_numbers(self):
        for numbers in small_rows(4) + mixed_rows(60):
            for row in (Row(*numbers), Row.of(numbers), Row.of(numbers=numbers)):
                self.assertIs(type(row), Row)
                self.assertIs(type(row.numbers), tuple)
                self.assertEqual(row.numbers, numbers)
                self.assertEqual(len(row), len(numbers))

    def test_least_and_greatest(self):
        for numbers in ((-999,), (999,), (0,), (-999, 999), tuple(range(20)), (-999,) * 20):
            self.assertEqual(Row(*numbers).numbers, numbers)
            self.assertEqual(Row.of(numbers).numbers, numbers)

    def test_no_tuple(self):
        for value in not_integers() + [0, 1, [1, 2], range(3), Row(1, 2)]:
            if not isinstance(value, tuple):
                with self.subTest(value=value):
                    with self.assertRaises(InvalidRow) as caught:
                        Row.of(value)
                    self.assertIsNone(caught.exception.position)

    def test_too_few_and_too_many(self):
        self.assertIsNone(self.position_of(()))
        for many in (21, 22, 100):
            self.assertIsNone(self.position_of((1,) * many))

    def test_the_count_comes_ahead_of_wrong_values(self):
        self.assertIsNone(self.position_of((None,) * 21))
        self.assertIsNone(self.position_of((1000,) + (1,) * 20))

    def test_the_first_wrong_value(self):
        for value in not_integers() + [1000, -1000, 10 ** 999, -10 ** 999]:
            with self.subTest(value=value):
                for position in (0, 1, 5, 19):
                    values = [7] * 20
                    values[position] = value
                    self.assertEqual(self.position_of(values), position)
                    values[position:] = [value] * (20 - position)
                    self.assertEqual(self.position_of(values), position)
                self.assertEqual(self.position_of((value,)), 0)


class Reading(unittest.TestCase):

    def test_bounds(self):
        self.assertEqual(Row(3, -1, 3, 0, -1).bounds, (-1, 0, 3))
        self.assertEqual(Row(5).bounds, (5,))
        for numbers in small_rows(4) + mixed_rows(60):
            bounds = Row(*numbers).bounds
            self.assertIs(type(bounds), tuple)
            self.assertEqual(bounds, tuple(number for number in range(-999, 1000) if number in numbers))

    def test_is_in_order(self):
        for numbers in small_rows(5) + mixed_rows(60):
            expected = not any(after < before for before, after in zip(numbers, numbers[1:]))
            self.assertIs(Row(*numbers).is_in_order, expected)
        self.assertIs(Row(1).is_in_order, True)
        self.assertIs(Row(-2, -2, 0).is_in_order, True)
        self.assertIs(Row(-1, -2).is_in_order, False)

    def test_places(self):
        for numbers in mixed_rows(40):
            row = Row(*numbers)
            self.assertEqual([row[place] for place in range(len(row))], list(numbers))

    def test_wrong_places(self):
        row = Row(4, 5, 6)
        for value in not_integers() + [3, 4, 20, -1, -3, 10 ** 999, slice(None), slice(0, 2)]:
            with self.subTest(value=value):
                with self.assertRaises(InvalidPlace) as caught:
                    row[value]
                self.assertIs(caught.exception.value, value)
        self.assertRaises(InvalidPlace, lambda: Row(1)[1])

    def test_in(self):
        row = Row(0, 1, -7, 999)
        for number in range(-1000, 1001):
            self.assertIs(number in row, number in (0, 1, -7, 999))
            self.assertIs(number not in row, number not in (0, 1, -7, 999))
        for value in not_integers() + [10 ** 999, (0, 1), Row(0, 1, -7, 999), GivesSignsAMeaning()]:
            with self.subTest(value=value):
                self.assertIs(value in row, False)

    def test_a_row_is_not_iterated_over(self):
        row = Row(1, 2)
        for act in (list, tuple, iter, sorted, sum, set, enumerate, max):
            with self.subTest(act=act):
                self.assertRaises(TypeError, act, row)
        with self.assertRaises(TypeError):
            one, other = row
        with self.assertRaises(TypeError):
            Row(*row)
        with self.assertRaises(TypeError):
            [number for number in row]


class Equality(unittest.TestCase):

    def test_rows(self):
        rows = small_rows(3)
        for one in rows:
            for other in rows:
                self.assertIs(Row(*one) == Row(*other), one == other)
                self.assertIs(Row(*one) != Row(*other), one != other)

    def test_values_of_other_kinds(self):
        row = Row(1, 2)
        values = [value for value in not_integers() if not isinstance(value, Row)]
        for value in values + [1, (1, 2), [1, 2], "(1, 2)"]:
            with self.subTest(value=value):
                self.assertIs(row == value, False)
                self.assertIs(row != value, True)
                self.assertIs(value == row, False)
                self.assertIs(value != row, True)
        self.assertIs(row == GivesSignsAMeaning(), False)


class Mirrored(unittest.TestCase):

    def test_numbers(self):
        self.assertEqual((-Row(2, 3, 0, 1)).numbers, (-1, 0, -3, -2))
        self.assertEqual((-Row(-999, 999, 5)).numbers, (-5, -999, 999))
        for numbers in small_rows(4) + mixed_rows(40):
            row = Row(*numbers)
            self.assertEqual((-row).numbers, tuple(-number for number in reversed(numbers)))
            self.assertEqual(-(-row), row)
            self.assertEqual(row.numbers, numbers)

    def test_forward_and_backward_sweeps_change_places(self):
        for numbers in small_rows(5) + mixed_rows(60):
            row = Row(*numbers)
            for size in (1, 2, 4, 11, 20):
                self.assertEqual(-row >> Forward(size), -(row >> Backward(size)))
                self.assertEqual(-row >> Backward(size), -(row >> Forward(size)))

    def test_order_stays(self):
        for numbers in small_rows(4):
            self.assertEqual((-Row(*numbers)).is_in_order, Row(*numbers).is_in_order)


class Adding(unittest.TestCase):

    def test_numbers(self):
        self.assertEqual((Row(1, 2) + Row(0)).numbers, (1, 2, 0))
        for many in range(1, 20):
            one, other = tuple(range(many)), tuple(range(many, 20))
            first, second = Row(*one), Row(*other)
            self.assertEqual((first + second).numbers, tuple(range(20)))
            self.assertEqual([first.numbers, second.numbers], [one, other])

    def test_too_many(self):
        for one, other in ((1, 20), (20, 1), (10, 11), (20, 20)):
            with self.assertRaises(InvalidRow) as caught:
                Row(*[5] * one) + Row(*[5] * other)
            self.assertIsNone(caught.exception.position)

    def test_a_row_behind_itself(self):
        row = Row(3, 1)
        self.assertEqual((row + row).numbers, (3, 1, 3, 1))
        row += row
        self.assertEqual(row.numbers, (3, 1, 3, 1))


class Under(unittest.TestCase):

    def test_all_small_rows(self):
        rows = small_rows(3)
        for one in rows:
            for other in rows:
                expected = len(one) == len(other) and all(one[at] <= other[at] for at in range(len(one)))
                self.assertIs(Row(*one).is_under(Row(*other)), expected)

    def test_other_lengths(self):
        self.assertIs(Row(1).is_under(Row(2, 2)), False)
        self.assertIs(Row(1, 1).is_under(Row(2)), False)

    def test_itself_and_by_name(self):
        row = Row(1, -1)
        self.assertIs(row.is_under(row), True)
        self.assertIs(row.is_under(other=Row(1, -2)), False)

    def test_it_stays_so_under_the_same_sweeps(self):
        for numbers in mixed_rows(60):
            row = Row(*[number // 2 for number in numbers])
            above = Row(*[number // 2 + at * 7 % 5 for at, number in enumerate(numbers)])
            self.assertTrue(row.is_under(above))
            for sweep in (Forward(1), Forward(4), Backward(1), Backward(6)):
                self.assertTrue((row >> sweep).is_under(above >> sweep))


class Operators(unittest.TestCase):

    def is_described(self, act, value):
        if act is operator.add:
            return isinstance(value, Row)
        return act is operator.rshift and isinstance(value, (Forward, Backward, Load))

    def test_other_values(self):
        row = Row(1, 2)
        for value in not_integers() + [1, 0, (1, 2), [1, 2]]:
            for act in OPERATORS:
                with self.subTest(act=act, value=value):
                    if not self.is_described(act, value):
                        self.assertRaises(TypeError, act, row, value)
                    # A string takes any value behind %, and no class can change that.
                    if not isinstance(value, (Row, str, bytes)):
                        self.assertRaises(TypeError, act, value, row)
        self.assertEqual(row.numbers, (1, 2))

    def test_values_that_give_the_signs_a_meaning(self):
        self.assertRaises(TypeError, lambda: Row(1) + GivesSignsAMeaning())
        self.assertRaises(TypeError, lambda: Row(1) >> GivesSignsAMeaning())

    def test_one_value(self):
        self.assertRaises(TypeError, lambda: +Row(1))
        self.assertRaises(TypeError, lambda: ~Row(1))

    def test_a_hand_is_no_sweep(self):
        self.assertRaises(TypeError, lambda: Row(1) >> Hand(1))


if __name__ == "__main__":
    unittest.main()
