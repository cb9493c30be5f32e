"""decide and check_decision of module handsweeps.decisions: points [14], [21] and [22]."""

import unittest

from handsweeps.cuts import Cut, counts
from handsweeps.decisions import check_decision, decide
from handsweeps.loads import Load
from handsweeps.rows import Row
from handsweeps.sweeps import Backward, Forward
from tests.samples import (
    GivesSignsAMeaning, after_load, loads_near, loads_up_to, mixed_rows, small_rows, values_of_every_kind,
)

LONG_ROWS = [
    tuple(range(19, -1, -1)), tuple(range(20)), (5,) * 20, (1, 0) * 10, (999,) * 10 + (-999,) * 10,
    (1,) * 8 + (0,) * 6 + (1,) * 6, (7,), (-999,), (999, -999), (-999, 999),
]


def is_ascending(numbers):
    return all(one <= other for one, other in zip(numbers, numbers[1:]))


def is_beyond(numbers, pair, place, bound):
    """Whether a cut of numbers has greater counts than both numbers of a load ([14])."""
    great = [number for number in numbers[:place] if number >= bound]
    small = [number for number in numbers[place:] if number < bound]
    return place <= len(numbers) and len(great) > pair[0] and len(small) > pair[1]


class Deciding(unittest.TestCase):

    def check(self, numbers, pair):
        row, load = Row(*numbers), Load(*pair)
        answer = decide(row, load)
        self.assertIs(type(answer), tuple)
        word, shown = answer
        after = after_load(numbers, *pair)
        if is_ascending(after):
            self.assertEqual(word, "order")
            self.assertIs(type(shown), Row)
            self.assertEqual(shown.numbers, after)
        else:
            self.assertEqual(word, "cut")
            self.assertIs(type(shown), Cut)
            self.assertTrue(is_beyond(numbers, pair, shown.place, shown.bound))
            great, small = counts(row, shown)
            self.assertTrue(great > load.forward and small > load.backward)
        self.assertIs(check_decision(row, load, answer), True)
        self.assertEqual([row.numbers, load.forward, load.backward], [numbers, *pair])

    def test_all_small_rows(self):
        for numbers in small_rows(6):
            for pair in loads_up_to(len(numbers)):
                self.check(numbers, pair)

    def test_all_lengths(self):
        for numbers in mixed_rows(60) + LONG_ROWS:
            for pair in loads_near(len(numbers)):
                self.check(numbers, pair)

    def test_all_loads_of_long_rows(self):
        for numbers in LONG_ROWS:
            for pair in loads_up_to(20):
                self.check(numbers, pair)

    def test_ordinary_rows(self):
        row = Row(2, 3, 0, 1)
        self.assertEqual(decide(row, Load(2, 0)), ("order", Row(0, 1, 2, 3)))
        self.assertEqual(decide(row, Load(0, 2)), ("order", Row(0, 1, 2, 3)))
        self.assertEqual(decide(row, Load(1, 1)), ("cut", Cut(2, 2)))

    def test_by_name(self):
        row, load = Row(1, 0), Load(1, 0)
        self.assertEqual(decide(load=load, row=row), ("order", Row(0, 1)))
        self.assertIs(check_decision(value=("order", Row(0, 1)), load=load, row=row), True)


class CheckingDecisions(unittest.TestCase):

    def test_all_rows_for_small_rows(self):
        others = small_rows(4)
        for numbers in small_rows(3):
            for pair in loads_up_to(len(numbers)):
                after = after_load(numbers, *pair)
                for other in others:
                    value = ("order", Row(*other))
                    expected = other == after and is_ascending(after)
                    self.assertIs(check_decision(Row(*numbers), Load(*pair), value), expected)

    def check_cuts(self, numbers, pair, bounds):
        row, load = Row(*numbers), Load(*pair)
        for place in range(21):
            for bound in bounds:
                expected = is_beyond(numbers, pair, place, bound)
                self.assertIs(check_decision(row, load, ("cut", Cut(place, bound))), expected)

    def test_all_cuts_of_small_rows(self):
        for numbers in small_rows(4):
            for pair in loads_up_to(2):
                self.check_cuts(numbers, pair, (-1000, -1, 0, 1, 2, 3, 1000))

    def test_all_cuts_of_long_rows(self):
        for numbers in LONG_ROWS:
            for pair in ((0, 0), (2, 3), (9, 9), (10, 0), (0, 10), (20, 20)):
                self.check_cuts(numbers, pair, sorted({number + step for number in numbers for step in (0, 1)}))

    def test_bounds_that_are_none_of_the_numbers(self):
        row = Row(10, -10)
        for bound in range(-1000, 1001):
            expected = -10 < bound <= 10
            self.assertIs(check_decision(row, Load(0, 0), ("cut", Cut(1, bound))), expected)

    def test_counts_at_the_numbers_of_the_load(self):
        row = Row(1, 1, 1, 0, 0)
        for pair in loads_up_to(4):
            expected = pair[0] < 3 and pair[1] < 2
            self.assertIs(check_decision(row, Load(*pair), ("cut", Cut(3, 1))), expected)

    def test_rows_that_differ(self):
        row = Row(2, 3, 0, 1)
        for other in (Row(2, 3, 0, 1), Row(0, 2, 1, 3), Row(0, 1, 2, 2), Row(0, 1, 2), Row(0, 1, 2, 3, 4)):
            self.assertIs(check_decision(row, Load(2, 0), ("order", other)), False)
        self.assertIs(check_decision(row, Load(1, 1), ("order", row >> Load(1, 1))), False)
        self.assertIs(check_decision(row, Load(1, 1), ("order", Row(0, 1, 2, 3))), False)

    def test_places_that_the_row_does_not_have(self):
        row = Row(1, 0)
        self.assertIs(check_decision(row, Load(0, 0), ("cut", Cut(1, 1))), True)
        for place in range(2, 21):
            self.assertIs(check_decision(row, Load(0, 0), ("cut", Cut(place, 1))), False)


class WrongValues(unittest.TestCase):

    CASES = (
        (Row(2, 3, 0, 1), Load(2, 0), "order", Row(0, 1, 2, 3)),
        (Row(2, 3, 0, 1), Load(1, 1), "cut", Cut(2, 2)),
        (Row(1), Load(0, 0), "order", Row(1)),
    )

    def refuse(self, row, load, value):
        with self.subTest(value=value):
            self.assertIs(check_decision(row, load, value), False)

    def test_values_of_every_kind(self):
        for row, load, word, shown in self.CASES:
            self.assertIs(check_decision(row, load, (word, shown)), True)
            self.refuse(row, load, word)
            self.refuse(row, load, (word, word))
            for value in values_of_every_kind() + [shown, Forward(1), Backward(1), row, load]:
                self.refuse(row, load, value)
                self.refuse(row, load, (value, shown))
                self.refuse(row, load, (value, value))
                if not isinstance(value, type(shown)) or value != shown:
                    self.refuse(row, load, (word, value))

    def test_lists_in_place_of_tuples(self):
        for row, load, word, shown in self.CASES:
            for value in ([word, shown], {word: shown}, {0: word, 1: shown}, iter((word, shown)), [(word, shown)]):
                self.refuse(row, load, value)

    def test_other_lengths(self):
        for row, load, word, shown in self.CASES:
            for value in ((), (word,), (shown,), (word, shown, None), (word, shown, shown), ((word, shown),)):
                self.refuse(row, load, value)

    def test_other_words(self):
        for row, load, word, shown in self.CASES:
            for other in ("", "order ", "Order", "ORDER", "cuts", "CUT", b"order", b"cut", "source", "bound", (word,)):
                self.refuse(row, load, (other, shown))
            self.refuse(row, load, ("cut" if word == "order" else "order", shown))
            self.refuse(row, load, (shown, word))

    def test_numbers_in_place_of_objects(self):
        row, load, word, shown = self.CASES[0]
        for value in (shown.numbers, list(shown.numbers), GivesSignsAMeaning()):
            self.refuse(row, load, (word, value))
        row, load, word, shown = self.CASES[1]
        for value in ((2, 2), [2, 2], Load(2, 2), Row(2, 2), GivesSignsAMeaning()):
            self.refuse(row, load, (word, value))

    def test_values_stay(self):
        row, load, value = Row(1, 0), Load(0, 0), ["cut", [1, 1]]
        self.refuse(row, load, value)
        self.assertEqual(value, ["cut", [1, 1]])


if __name__ == "__main__":
    unittest.main()
