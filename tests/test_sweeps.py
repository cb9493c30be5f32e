"""Module handsweeps.sweeps: points [12], [14] and [20]."""

import unittest

from handsweeps.errors import InvalidSize
from handsweeps.hands import Hand
from handsweeps.rows import Row
from handsweeps.sweeps import Backward, Forward, Sweep
from tests.samples import letters, mixed_rows, not_integers, small_rows, swept, without_first, wrong_sizes


class SweepingRows(unittest.TestCase):

    def check(self, numbers, size):
        row = Row(*numbers)
        for kind in (Forward, Backward):
            sweep = kind(size)
            expected = swept(numbers, size, kind is Backward)
            for after in (sweep(row), row >> sweep, sweep(row=row)):
                self.assertIs(type(after), Row)
                self.assertEqual(after.numbers, expected)
            self.assertEqual(row.numbers, numbers)
            self.assertEqual(sweep.size, size)

    def test_all_small_rows(self):
        for numbers in small_rows(5):
            for size in range(1, 7):
                self.check(numbers, size)

    def test_all_sizes(self):
        for size in range(1, 21):
            for numbers in mixed_rows(60):
                self.check(numbers, size)

    def test_against_a_hand(self):
        for numbers in mixed_rows(40):
            for size in (1, 2, 5, 20):
                hand = Hand(size)
                laid = [number for number in [hand(number) for number in numbers] if number is not None]
                self.assertEqual(Forward(size)(Row(*numbers)).numbers, tuple(laid + list(hand.rest())))
                hand = Hand(size, small=True)
                laid = [number for number in [hand(number) for number in numbers[::-1]] if number is not None]
                laid += list(hand.rest())
                self.assertEqual(Backward(size)(Row(*numbers)).numbers, tuple(laid[::-1]))

    def test_ordinary_rows(self):
        row = Row(2, 3, 0, 1)
        self.assertEqual((row >> Forward(1)).numbers, (2, 0, 1, 3))
        self.assertEqual((row >> Forward(2)).numbers, (0, 1, 2, 3))
        self.assertEqual((row >> Backward(1)).numbers, (0, 2, 3, 1))
        self.assertEqual((row >> Backward(2)).numbers, (0, 1, 2, 3))
        self.assertEqual((Row(5) >> Backward(20)).numbers, (5,))

    def test_one_after_the_other(self):
        row = Row(2, 3, 0, 1)
        self.assertEqual((row >> Forward(1) >> Backward(1)).numbers, (0, 2, 1, 3))


class Letters(unittest.TestCase):

    def bounds(self, numbers):
        return sorted({number + step for number in numbers for step in (0, 1)})

    def test_forward(self):
        for numbers in small_rows(5) + mixed_rows(60):
            for size in (1, 2, 3, 7, 20):
                after = (Row(*numbers) >> Forward(size)).numbers
                for bound in self.bounds(numbers):
                    old = letters(numbers, bound)
                    moved = min(size, old.count(1))
                    self.assertEqual(letters(after, bound), without_first(old, 1, moved) + [1] * moved)

    def test_backward(self):
        for numbers in small_rows(5) + mixed_rows(60):
            for size in (1, 2, 3, 7, 20):
                after = (Row(*numbers) >> Backward(size)).numbers
                for bound in self.bounds(numbers):
                    old = letters(numbers, bound)
                    moved = min(size, old.count(0))
                    self.assertEqual(letters(after, bound), [0] * moved + without_first(old[::-1], 0, moved)[::-1])

    def test_sizes_are_added_and_sweeps_exchanged(self):
        for numbers in small_rows(5) + mixed_rows(60):
            row = Row(*numbers)
            for one in (1, 2, 5):
                for other in (1, 3, 15):
                    for kind in (Forward, Backward):
                        self.assertEqual(row >> kind(one) >> kind(other), row >> kind(one + other))
                    self.assertEqual(row >> Forward(one) >> Backward(other), row >> Backward(other) >> Forward(one))


class SweepObjects(unittest.TestCase):

    def test_classes(self):
        self.assertEqual(Forward.__bases__, (Sweep,))
        self.assertEqual(Backward.__bases__, (Sweep,))

    def test_size(self):
        for size in range(1, 21):
            self.assertEqual([Forward(size).size, Backward(size=size).size], [size, size])

    def test_letter(self):
        self.assertEqual([Forward.LETTER, Forward(3).LETTER], ["f", "f"])
        self.assertEqual([Backward.LETTER, Backward(3).LETTER], ["b", "b"])

    def test_wrong_sizes(self):
        for kind in (Forward, Backward):
            for value in wrong_sizes():
                with self.subTest(kind=kind, value=value):
                    with self.assertRaises(InvalidSize) as caught:
                        kind(value)
                    self.assertIs(caught.exception.value, value)
            self.assertRaises(TypeError, kind)

    def test_equal_sweeps(self):
        for kind in (Forward, Backward):
            for one in range(1, 21):
                for other in range(1, 21):
                    self.assertIs(kind(one) == kind(other), one == other)
                    self.assertIs(kind(one) != kind(other), one != other)

    def test_sweeps_of_the_other_class(self):
        for size in range(1, 21):
            self.assertIs(Forward(size) == Backward(size), False)
            self.assertIs(Backward(size) == Forward(size), False)
            self.assertIs(Forward(size) != Backward(size), True)
            self.assertIs(Backward(size) != Forward(size), True)

    def test_values_of_other_kinds(self):
        for sweep, other in ((Forward(1), Backward(1)), (Backward(1), Forward(1))):
            values = [value for value in not_integers() if type(value) is not type(sweep)]
            for value in values + [1, 0, sweep.LETTER, other]:
                with self.subTest(sweep=sweep, value=value):
                    self.assertIs(sweep == value, False)
                    self.assertIs(sweep != value, True)
                    self.assertIs(value == sweep, False)
                    self.assertIs(value != sweep, True)

    def test_operators_with_other_values(self):
        sweep = Forward(1)
        self.assertRaises(TypeError, lambda: sweep + sweep)
        self.assertRaises(TypeError, lambda: sweep >> Row(1))
        self.assertRaises(TypeError, lambda: sweep << Row(1))
        self.assertRaises(TypeError, lambda: sweep * 2)
        self.assertRaises(TypeError, lambda: 2 * sweep)
        self.assertRaises(TypeError, lambda: sweep < Forward(2))
        self.assertRaises(TypeError, lambda: -sweep)


if __name__ == "__main__":
    unittest.main()
