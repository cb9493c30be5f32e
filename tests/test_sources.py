"""source_of and check_source of module handsweeps.decisions: point [28]."""

import unittest
from itertools import permutations

from handsweeps.cuts import Cut
from handsweeps.decisions import check_source, source_of
from handsweeps.loads import Load
from handsweeps.rows import Row
from tests.samples import (
    GivesSignsAMeaning, after_load, letters, loads_near, loads_up_to, mixed_rows, small_rows, values_of_every_kind,
)

BOUNDS = (-10 ** 999, -1000, -2, -1, 0, 1, 2, 3, 1000, 1001, 10 ** 999)
LONG_ROWS = [
    tuple(range(20)), tuple(range(19, -1, -1)), (5,) * 20, (1, 0) * 10, (0, 1) * 10, (-999,) * 10 + (999,) * 10,
    (0,) * 3 + (1, 0) * 7 + (1,) * 3, (7,), (-999,), (999, -999), (-999, 999),
]


def shows_none(numbers, pair, bound):
    """Whether the letters for a bound show that there is no source ([28])."""
    found = letters(numbers, bound)
    forward, backward = pair
    small = found.count(0)
    first, last = min(backward, small), min(forward, len(found) - small)
    return found[:first] != [0] * first or found[::-1][:last] != [1] * last


def arrangements(numbers):
    return sorted(set(permutations(numbers)))


class FindingSources(unittest.TestCase):

    def check(self, numbers, pair):
        """Check an answer in itself; return its word."""
        row, load = Row(*numbers), Load(*pair)
        answer = source_of(row, load)
        self.assertIs(type(answer), tuple)
        word, shown = answer
        if word == "source":
            self.assertIs(type(shown), Row)
            self.assertEqual(sorted(shown.numbers), sorted(numbers))
            self.assertEqual(after_load(shown.numbers, *pair), numbers)
        else:
            self.assertEqual(word, "bound")
            self.assertIs(type(shown), int)
            self.assertTrue(shows_none(numbers, pair, shown))
        self.assertIs(check_source(row, load, answer), True)
        self.assertEqual([row.numbers, load.forward, load.backward], [numbers, *pair])
        return word

    def test_against_all_arrangements_of_small_rows(self):
        for numbers in small_rows(5) + list(permutations(range(5))):
            if list(numbers) != sorted(numbers):
                continue
            rows = arrangements(numbers)
            for pair in loads_up_to(len(numbers) + 1):
                reached = {after_load(row, *pair) for row in rows}
                for row in rows:
                    self.assertEqual(self.check(row, pair), "source" if row in reached else "bound")

    def test_rows_after_loads(self):
        for numbers in mixed_rows(60) + LONG_ROWS:
            for pair in loads_near(len(numbers)):
                self.assertEqual(self.check(after_load(numbers, *pair), pair), "source")
                self.check(numbers, pair)

    def test_all_loads_of_long_rows(self):
        for numbers in LONG_ROWS:
            for pair in loads_up_to(21):
                self.check(numbers, pair)

    def test_without_a_load_each_row_is_its_own_source(self):
        for numbers in small_rows(4) + mixed_rows(40):
            self.assertEqual(source_of(Row(*numbers), Load(0, 0)), ("source", Row(*numbers)))

    def test_loads_as_great_as_the_row(self):
        for numbers in mixed_rows(60) + LONG_ROWS:
            for forward in range(len(numbers) + 1):
                for surplus in (0, 1, 20, 1100):
                    pair = forward, len(numbers) - forward + surplus
                    expected = "source" if list(numbers) == sorted(numbers) else "bound"
                    self.assertEqual(self.check(numbers, pair), expected)
                    self.assertEqual(self.check(tuple(sorted(numbers)), pair), "source")

    def test_by_name(self):
        row, load = Row(0, 1, 0, 1), Load(1, 1)
        self.assertEqual(source_of(load=load, row=row)[0], "source")
        self.assertEqual(source_of(row=Row(1, 0), load=load)[0], "bound")
        value = ("source", Row(1, 1, 0, 0))
        self.assertIs(check_source(value=value, load=load, row=row), True)


class CheckingSources(unittest.TestCase):

    def test_all_rows_for_small_rows(self):
        others = small_rows(4)
        for numbers in small_rows(3):
            for pair in loads_up_to(len(numbers) + 1):
                for other in others:
                    expected = after_load(other, *pair) == numbers
                    value = ("source", Row(*other))
                    self.assertIs(check_source(Row(*numbers), Load(*pair), value), expected)

    def test_all_arrangements(self):
        numbers = (0, 3, 1, 2, 2)
        for pair in loads_up_to(5):
            for after in {after_load(other, *pair) for other in permutations(numbers)}:
                for other in arrangements(numbers):
                    expected = after_load(other, *pair) == after
                    value = ("source", Row(*other))
                    self.assertIs(check_source(Row(*after), Load(*pair), value), expected)

    def test_bounds_of_small_rows(self):
        for numbers in small_rows(4):
            for pair in loads_up_to(len(numbers) + 1):
                for bound in BOUNDS:
                    expected = shows_none(numbers, pair, bound)
                    self.assertIs(check_source(Row(*numbers), Load(*pair), ("bound", bound)), expected)

    def test_bounds_of_long_rows(self):
        for numbers in mixed_rows(20) + LONG_ROWS:
            bounds = {number + step for number in numbers for step in (0, 1)}
            for pair in loads_near(len(numbers)):
                for bound in sorted(bounds):
                    expected = shows_none(numbers, pair, bound)
                    self.assertIs(check_source(Row(*numbers), Load(*pair), ("bound", bound)), expected)

    def test_bounds_that_are_none_of_the_numbers(self):
        for bound in range(-1010, 1011):
            self.assertIs(check_source(Row(10, -10), Load(1, 0), ("bound", bound)), -10 < bound <= 10)
            self.assertIs(check_source(Row(10, -10), Load(0, 1), ("bound", bound)), -10 < bound <= 10)
            self.assertIs(check_source(Row(10, -10), Load(0, 0), ("bound", bound)), False)
            self.assertIs(check_source(Row(-10, 10), Load(1, 1), ("bound", bound)), False)

    def test_either_end_shows_it(self):
        self.assertIs(check_source(Row(1, 0, 1), Load(0, 1), ("bound", 1)), True)
        self.assertIs(check_source(Row(1, 0, 1), Load(1, 0), ("bound", 1)), False)
        self.assertIs(check_source(Row(0, 1, 0), Load(0, 1), ("bound", 1)), False)
        self.assertIs(check_source(Row(0, 1, 0), Load(1, 0), ("bound", 1)), True)


class WrongValues(unittest.TestCase):

    CASES = (
        (Row(0, 1, 0, 1), Load(1, 1), "source", Row(1, 1, 0, 0)),
        (Row(1, 0, 1), Load(0, 1), "bound", 1),
        (Row(5), Load(0, 0), "source", Row(5)),
    )

    def refuse(self, row, load, value):
        with self.subTest(value=value):
            self.assertIs(check_source(row, load, value), False)

    def test_values_of_every_kind(self):
        for row, load, word, shown in self.CASES:
            self.assertIs(check_source(row, load, (word, shown)), True)
            self.refuse(row, load, word)
            self.refuse(row, load, (word, word))
            for value in values_of_every_kind() + [shown, row, load, Cut(1, 1)]:
                self.refuse(row, load, value)
                self.refuse(row, load, (value, shown))
                self.refuse(row, load, (value, value))
                if type(value) is not type(shown):
                    self.refuse(row, load, (word, value))

    def test_lists_in_place_of_tuples(self):
        for row, load, word, shown in self.CASES:
            for value in ([word, shown], {word: shown}, {0: word, 1: shown}, iter((word, shown)), [(word, shown)]):
                self.refuse(row, load, value)

    def test_other_lengths(self):
        for row, load, word, shown in self.CASES:
            for value in ((), (word,), (shown,), (word, shown, None), (word, shown, shown), ((word, shown),)):
                self.refuse(row, load, value)

    def test_other_words(self):
        for row, load, word, shown in self.CASES:
            for other in ("", "source ", "Source", "BOUND", "bounds", b"source", b"bound", "order", "cut", (word,)):
                self.refuse(row, load, (other, shown))
            self.refuse(row, load, ("bound" if word == "source" else "source", shown))
            self.refuse(row, load, (shown, word))

    def test_true_and_false_are_no_bounds(self):
        for bound in (True, False):
            self.refuse(Row(1, 0, 1), Load(0, 1), ("bound", bound))
            self.refuse(Row(0, -1, 0), Load(0, 1), ("bound", bound))
        self.assertIs(check_source(Row(0, -1, 0), Load(0, 1), ("bound", 0)), True)

    def test_other_sources(self):
        row, load = Row(0, 1, 0, 1), Load(1, 1)
        for other in (Row(0, 1, 1, 0), Row(1, 1, 0), Row(1, 1, 0, 0, 0), Row(1, 2, 0, 0), Row(2, 2, 0, 0)):
            self.refuse(row, load, ("source", other))
        for value in ((1, 1, 0, 0), [1, 1, 0, 0], GivesSignsAMeaning()):
            self.refuse(row, load, ("source", value))

    def test_values_stay(self):
        row, load, value = Row(1, 0), Load(0, 1), ["bound", [1]]
        self.refuse(row, load, value)
        self.assertEqual(value, ["bound", [1]])


if __name__ == "__main__":
    unittest.main()
