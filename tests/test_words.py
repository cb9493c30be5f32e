"""Module handsweeps.words: points [0], [2], [12] and [13]."""

import unittest

from handsweeps.errors import InvalidWord, LimitExceeded, SweepError
from handsweeps.loads import Load
from handsweeps.rows import Row
from handsweeps.sweeps import Backward, Forward, Sweep
from handsweeps.words import load_of, rows_after
from tests.samples import mixed_rows, mixed_word, small_rows, swept, values_of_every_kind, words_with

SWEEPS = tuple(kind(size) for kind in (Forward, Backward) for size in range(1, 21))
ROW = Row(2, 3, 0, 1)


def not_sweeps():
    """New values of every kind that are no sweeps."""
    values = values_of_every_kind() + [Forward, Backward, Sweep, "f", "b", (Forward(1),), [Forward(1)], Load(1, 1)]
    return [value for value in values if not isinstance(value, Sweep)]


def not_tuples():
    """New values of every kind that are no tuples."""
    values = values_of_every_kind() + [Forward(1), [Forward(1)], [Forward(1), Backward(2)], {0: Forward(1)}]
    return [value for value in values if not isinstance(value, tuple)]


class WrongWords(unittest.TestCase):

    def check_position(self, word, position):
        for act in (lambda: load_of(word), lambda: next(rows_after(ROW, word)), lambda: list(rows_after(ROW, word))):
            with self.assertRaises(InvalidWord) as caught:
                act()
            self.assertEqual(caught.exception.position, position)
            self.assertIsInstance(caught.exception, SweepError)

    def test_no_tuple(self):
        for value in not_tuples():
            with self.subTest(value=value):
                self.check_position(value, None)
        self.check_position(iter(SWEEPS), None)

    def test_values_that_are_no_sweeps(self):
        for value in not_sweeps():
            for position in (0, 1, 5, 39):
                with self.subTest(value=value, position=position):
                    self.check_position((*SWEEPS[:position], value), position)
                    self.check_position((*SWEEPS[:position], value, *SWEEPS), position)

    def test_the_first_one_counts(self):
        values = not_sweeps()
        self.check_position(tuple(values), 0)
        self.check_position((Forward(1), *values), 1)
        self.check_position((Backward(3), Forward(1), None, Forward(2), 7), 2)

    def test_wrong_words_come_ahead_of_great_loads(self):
        self.check_position((Forward(20),) * 61 + (None,), 61)
        self.check_position((Backward(20),) * 100 + (20,), 100)
        self.check_position([Forward(20)] * 61, None)


class LoadOf(unittest.TestCase):

    def test_empty_word(self):
        self.assertEqual(load_of(()), Load(0, 0))
        self.assertIs(type(load_of(())), Load)

    def test_one_sweep(self):
        for size in range(1, 21):
            self.assertEqual(load_of((Forward(size),)), Load(size, 0))
            self.assertEqual(load_of((Backward(size),)), Load(0, size))

    def test_all_sweeps(self):
        self.assertEqual(load_of(SWEEPS), Load(210, 210))
        self.assertEqual(load_of(SWEEPS[:20]), Load(210, 0))
        self.assertEqual(load_of(SWEEPS[19:22]), Load(20, 3))

    def test_words_with_a_load(self):
        for forward in range(4):
            for backward in range(4):
                for word in words_with(forward, backward):
                    self.assertEqual(load_of(word), Load(forward, backward))
                    self.assertEqual(load_of(word=word), Load(forward, backward))

    def test_the_limit(self):
        for numbers in ((1200, 0), (0, 1200), (1200, 1200), (1200, 1), (1, 1200), (1199, 1200)):
            for most in (1, 7, 20):
                self.assertEqual(load_of(mixed_word(*numbers, most)), Load(*numbers))
        for numbers in ((1201, 0), (0, 1201), (1201, 1200), (1200, 1201), (1201, 1201), (1202, 3), (3, 5000)):
            for most in (1, 7, 20):
                with self.assertRaises(LimitExceeded) as caught:
                    load_of(mixed_word(*numbers, most))
                self.assertEqual(caught.exception.limit, 1200)

    def test_new_loads(self):
        self.assertIsNot(load_of(SWEEPS), load_of(SWEEPS))


class RowsAfter(unittest.TestCase):

    def test_empty_word(self):
        self.assertEqual(list(rows_after(ROW, ())), [])

    def check(self, numbers, word):
        row = Row(*numbers)
        expected = []
        now = numbers
        for sweep in word:
            now = swept(now, sweep.size, isinstance(sweep, Backward))
            expected.append(now)
        rows = list(rows_after(row, word))
        self.assertEqual([row.numbers for row in rows], expected)
        self.assertEqual({type(row) for row in rows} | {Row}, {Row})
        self.assertEqual(row.numbers, numbers)

    def test_small_rows(self):
        words = [word for forward in range(3) for backward in range(3) for word in words_with(forward, backward)]
        for numbers in small_rows(4):
            for word in words:
                self.check(numbers, word)

    def test_all_lengths(self):
        for numbers in mixed_rows(60):
            for load in ((3, 5), (19, 2), (40, 40)):
                for most in (1, 4, 20):
                    self.check(numbers, mixed_word(*load, most))
            self.check(numbers, SWEEPS)

    def test_how_great_the_load_is_does_not_matter(self):
        for numbers in ((1201, 0), (0, 1201), (3000, 3000)):
            word = mixed_word(*numbers, 20)
            rows = list(rows_after(ROW, word))
            self.assertEqual(len(rows), len(word))
            self.assertEqual(rows[-1], Row(0, 1, 2, 3))

    def test_by_name(self):
        rows = list(rows_after(word=(Forward(1), Backward(1)), row=ROW))
        self.assertEqual(rows, [Row(2, 0, 1, 3), Row(0, 2, 1, 3)])

    def test_errors_come_with_the_first_item(self):
        for word, position in (([Forward(1)], None), (5, None), ((Forward(1), Backward(1), 3), 2), ((None,), 0)):
            walk = rows_after(ROW, word)
            with self.assertRaises(InvalidWord) as caught:
                next(walk)
            self.assertEqual(caught.exception.position, position)

    def test_two_walks_at_once(self):
        word, other = (Forward(1), Backward(1), Forward(1)), (Backward(1), Backward(1))
        first, second, third = rows_after(ROW, word), rows_after(ROW, word), rows_after(Row(1, 0), other)
        rows = [next(walk) for walk in (first, second, first, third, first, second, second, third)]
        one, two, three = Row(2, 0, 1, 3), Row(0, 2, 1, 3), Row(0, 1, 2, 3)
        self.assertEqual(rows, [one, one, two, Row(0, 1), three, two, three, Row(0, 1)])
        self.assertEqual([list(first), list(second), list(third)], [[], [], []])
        self.assertEqual([ROW.numbers, [sweep.size for sweep in word]], [(2, 3, 0, 1), [1, 1, 1]])


if __name__ == "__main__":
    unittest.main()
