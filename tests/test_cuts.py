"""Module handsweeps.cuts: points [1], [2], [4] and [14]."""

import unittest

from handsweeps.cuts import Cut, counts
from handsweeps.errors import InvalidCut, SweepError
from handsweeps.loads import Load
from handsweeps.rows import Row
from tests.samples import GivesSignsAMeaning, mixed_rows, not_integers, small_rows, values_of_every_kind

PAIRS = [(place, bound) for place in (0, 1, 2, 19, 20) for bound in (-1000, -999, -1, 0, 1, 2, 20, 999, 1000)]


def wrong_places():
    return not_integers() + [-1, 21, 22, -20, 1000, 10 ** 999, -10 ** 999, GivesSignsAMeaning()]


def wrong_bounds():
    return not_integers() + [-1001, 1001, 1002, -2000, 10 ** 999, -10 ** 999, GivesSignsAMeaning()]


class Creating(unittest.TestCase):

    def test_all_places_and_bounds(self):
        for place in range(21):
            for bound in range(-1000, 1001):
                cut = Cut(place, bound)
                self.assertEqual((cut.place, cut.bound), (place, bound))

    def test_by_name(self):
        for cut in (Cut(place=3, bound=-7), Cut(bound=-7, place=3), Cut(3, bound=-7)):
            self.assertEqual((cut.place, cut.bound), (3, -7))
        self.assertRaises(TypeError, Cut)
        self.assertRaises(TypeError, Cut, 1)
        self.assertRaises(TypeError, Cut, 1, 2, 3)

    def check_error(self, value, act):
        with self.assertRaises(InvalidCut) as caught:
            act()
        self.assertIs(caught.exception.value, value)
        self.assertIsInstance(caught.exception, SweepError)

    def test_wrong_places_come_first(self):
        for value in wrong_places():
            for bound in [0, -1000, 1000] + wrong_bounds():
                with self.subTest(value=value, bound=bound):
                    self.check_error(value, lambda: Cut(value, bound))
            self.check_error(value, lambda: Cut(bound=[1], place=value))

    def test_wrong_bounds(self):
        for value in wrong_bounds():
            for place in (0, 5, 20):
                with self.subTest(value=value, place=place):
                    self.check_error(value, lambda: Cut(place, value))
                    self.check_error(value, lambda: Cut(bound=value, place=place))


class Equality(unittest.TestCase):

    def test_cuts(self):
        for one in PAIRS:
            for other in PAIRS:
                self.assertIs(Cut(*one) == Cut(*other), one == other)
                self.assertIs(Cut(*one) != Cut(*other), one != other)

    def test_values_of_other_kinds(self):
        cut = Cut(1, 2)
        for value in not_integers() + [1, 2, (1, 2), [1, 2], Load(1, 2), Row(1, 2), Cut(2, 1)]:
            with self.subTest(value=value):
                self.assertIs(cut == value, False)
                self.assertIs(cut != value, True)
                self.assertIs(value == cut, False)
                self.assertIs(value != cut, True)
        self.assertIs(cut == GivesSignsAMeaning(), False)

    def test_operators_with_other_values(self):
        cut = Cut(1, 2)
        self.assertRaises(TypeError, lambda: cut + cut)
        self.assertRaises(TypeError, lambda: cut < cut)
        self.assertRaises(TypeError, lambda: -cut)
        self.assertRaises(TypeError, lambda: 2 * cut)
        self.assertRaises(TypeError, lambda: cut & cut)
        self.assertRaises(TypeError, lambda: Row(1) >> cut)


class Counts(unittest.TestCase):

    def check(self, numbers, place, bound):
        great = sum(1 for at in range(place) if numbers[at] >= bound)
        small = sum(1 for at in range(place, len(numbers)) if not numbers[at] >= bound)
        row, cut = Row(*numbers), Cut(place, bound)
        found = counts(row, cut)
        self.assertIs(type(found), tuple)
        self.assertEqual(found, (great, small))
        self.assertEqual([row.numbers, cut.place, cut.bound], [numbers, place, bound])

    def test_small_rows(self):
        for numbers in small_rows(5):
            for place in range(len(numbers) + 1):
                for bound in (-1000, -1, 0, 1, 2, 3, 1000):
                    self.check(numbers, place, bound)

    def test_all_lengths(self):
        for numbers in mixed_rows(40) + [(-999, 999) * 10, (999,), (-999,)]:
            bounds = {min(max(number + step, -1000), 1000) for number in numbers for step in (-1, 0, 1)}
            for place in range(len(numbers) + 1):
                for bound in bounds | {-1000, -999, 999, 1000}:
                    self.check(numbers, place, bound)

    def test_ordinary_cuts(self):
        row = Row(2, 3, 0, 1)
        self.assertEqual(counts(row, Cut(2, 2)), (2, 2))
        self.assertEqual(counts(row, Cut(0, 2)), (0, 2))
        self.assertEqual(counts(row, Cut(4, 2)), (2, 0))
        self.assertEqual(counts(cut=Cut(1, 3), row=row), (0, 2))

    def test_bounds_beyond_the_numbers(self):
        row = Row(-999, 999, 5)
        for place in range(4):
            self.assertEqual(counts(row, Cut(place, -1000)), (place, 0))
            self.assertEqual(counts(row, Cut(place, -999)), (place, 0))
            self.assertEqual(counts(row, Cut(place, 1000)), (0, 3 - place))

    def check_error(self, row, value):
        with self.assertRaises(InvalidCut) as caught:
            counts(row, value)
        self.assertIs(caught.exception.value, value)
        self.assertIsInstance(caught.exception, SweepError)

    def test_no_cut(self):
        for value in values_of_every_kind() + [Cut, (0, 0), [0, 0], Load(0, 0)]:
            if not isinstance(value, Cut):
                with self.subTest(value=value):
                    self.check_error(Row(1, 2), value)
                    self.check_error(Row(*range(20)), value)

    def test_places_that_the_row_does_not_have(self):
        for many in range(1, 21):
            row = Row(*range(many))
            for place in range(21):
                cut = Cut(place, 0)
                if place > many:
                    self.check_error(row, cut)
                else:
                    self.assertEqual(counts(row, cut), (place, 0))


if __name__ == "__main__":
    unittest.main()
