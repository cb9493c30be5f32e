"""`row >> load` of module handsweeps.rows: points [20] and [21]."""

import unittest

from handsweeps.loads import Load
from handsweeps.rows import Row
from handsweeps.sweeps import Backward, Forward
from tests.samples import (
    after_load, letters, letters_after, loads_near, loads_up_to, mixed_rows, mixed_word, small_rows, swept, words_with,
)

LONG_ROWS = [
    tuple(range(20)), tuple(range(19, -1, -1)), (5,) * 20, (1, 0) * 10, (0, 1) * 10, (999,) * 10 + (-999,) * 10,
    (3, 1, 2, 3, 0) * 4, (7,), (-999,), (1, 1), (2, 1),
]


class AgainstSweeps(unittest.TestCase):

    def after_word(self, numbers, word):
        """The numbers after the sweeps of a word, by [12]."""
        for sweep in word:
            numbers = swept(numbers, sweep.size, isinstance(sweep, Backward))
        return numbers

    def test_all_words_with_small_loads(self):
        words = {pair: words_with(*pair) for pair in loads_up_to(3) if sum(pair) < 5}
        for numbers in small_rows(3) + [(2, 1, 0, 2, 1), (3, 2, 1, 0), (1, 4, 0, 3, 2, 1)]:
            for pair, its_words in words.items():
                after = (Row(*numbers) >> Load(*pair)).numbers
                for word in its_words:
                    self.assertEqual(self.after_word(numbers, word), after)

    def test_words_parted_and_mixed(self):
        for numbers in mixed_rows(20) + LONG_ROWS:
            for pair in loads_near(len(numbers)):
                after = (Row(*numbers) >> Load(*pair)).numbers
                if max(pair) <= 40:
                    for most in (1, 3, 20):
                        self.assertEqual(self.after_word(numbers, mixed_word(*pair, most)), after)

    def test_the_greatest_loads(self):
        for pair in ((1200, 1200), (1200, 0), (0, 1200), (1199, 1), (2, 1200)):
            word = mixed_word(*pair, 20)
            for numbers in LONG_ROWS:
                self.assertEqual(self.after_word(numbers, word), (Row(*numbers) >> Load(*pair)).numbers)

    def test_against_the_sweeps_of_the_package(self):
        for numbers in mixed_rows(60):
            row = Row(*numbers)
            for size in range(1, 21):
                self.assertEqual(row >> Load(size, 0), row >> Forward(size))
                self.assertEqual(row >> Load(0, size), row >> Backward(size))
                self.assertEqual(row >> Load(size, 21 - size), row >> Backward(21 - size) >> Forward(size))


class AgainstLetters(unittest.TestCase):

    def check(self, numbers, pair):
        row, load = Row(*numbers), Load(*pair)
        after = row >> load
        self.assertIs(type(after), Row)
        for bound in {number + step for number in numbers for step in (0, 1)}:
            self.assertEqual(letters(after.numbers, bound), letters_after(letters(numbers, bound), *pair))
        self.assertEqual(after.numbers, after_load(numbers, *pair))
        self.assertEqual([row.numbers, load.forward, load.backward], [numbers, *pair])

    def test_all_small_rows(self):
        for numbers in small_rows(5):
            for pair in loads_up_to(len(numbers) + 1):
                self.check(numbers, pair)

    def test_all_lengths(self):
        for numbers in mixed_rows(20) + LONG_ROWS:
            for pair in loads_near(len(numbers)):
                self.check(numbers, pair)

    def test_loads_near_the_length(self):
        for numbers in LONG_ROWS:
            many = len(numbers)
            for forward in range(many + 1):
                for total in range(many - 3, many + 2):
                    self.check(numbers, (forward, max(0, total - forward)))


class Facts(unittest.TestCase):

    def test_nothing_is_done(self):
        for numbers in small_rows(4) + mixed_rows(40):
            row = Row(*numbers)
            self.assertEqual((row >> Load(0, 0)).numbers, numbers)

    def test_ordinary_rows(self):
        row = Row(2, 3, 0, 1)
        self.assertEqual((row >> Load(1, 1)).numbers, (0, 2, 1, 3))
        self.assertEqual((row >> Load(1, 0)).numbers, (2, 0, 1, 3))
        self.assertEqual((row >> Load(0, 1)).numbers, (0, 2, 3, 1))
        self.assertEqual((row >> Load(2, 0)).numbers, (0, 1, 2, 3))
        self.assertEqual((row >> Load(0, 2)).numbers, (0, 1, 2, 3))

    def test_loads_are_added(self):
        for numbers in mixed_rows(40):
            row = Row(*numbers)
            for one in ((0, 0), (1, 0), (2, 3), (7, 1)):
                for other in ((0, 1), (4, 2), (20, 0)):
                    self.assertEqual(row >> Load(*one) >> Load(*other), row >> Load(*one) + Load(*other))

    def test_mirrored(self):
        for numbers in mixed_rows(40):
            row = Row(*numbers)
            for pair in loads_up_to(4):
                self.assertEqual(-row >> Load(*pair), -(row >> -Load(*pair)))

    def test_great_loads_put_all_rows_in_order(self):
        for numbers in mixed_rows(40):
            for forward in range(len(numbers)):
                after = Row(*numbers) >> Load(forward, len(numbers) - 1 - forward)
                self.assertEqual(after.numbers, tuple(sorted(numbers)))

    def test_in_place(self):
        row = other = Row(2, 3, 0, 1)
        row >>= Load(1, 1)
        self.assertEqual([row.numbers, other.numbers], [(0, 2, 1, 3), (2, 3, 0, 1)])

    def test_the_other_way_round(self):
        self.assertRaises(TypeError, lambda: Load(1, 1) >> Row(1, 2))
        self.assertRaises(TypeError, lambda: Row(1, 2) << Load(1, 1))
        self.assertRaises(TypeError, lambda: Row(1, 2) >> (1, 1))


if __name__ == "__main__":
    unittest.main()
