"""Module handsweeps.comparing: points [24] and [25]."""

from itertools import product

from handsweeps.comparing import check_comparison, compare_words
from handsweeps.errors import InvalidCount, InvalidWord, LimitExceeded
from handsweeps.loads import Load
from handsweeps.rows import Row
from handsweeps.sweeps import Backward, Forward
from handsweeps.words import load_of
from tests.cases import Case
from tests.samples import (
    GivesSignsAMeaning, letters_after, loads_up_to, mixed_word, not_integers, values_of_every_kind, words_with,
)

LONG = (Forward(20),) * 61
WRONG_WORDS = (
    ([Forward(1)], None), (None, None), (Forward(1), None), ((3,), 0), ((Forward(1), None), 1),
    ((Forward(1), Backward(2), Forward, Backward), 2), (LONG + ("f",), 61), (GivesSignsAMeaning(), None),
)


def word_with(pair):
    return (Forward(1),) * pair[0] + (Backward(1),) * pair[1]


def is_in_order_after(numbers, pair):
    """Whether a row of 0 and 1 is in order after a load ([21])."""
    after = letters_after(list(numbers), *pair)
    return after == sorted(after)


def rows_apart(many, one, other):
    """All rows of 0 and 1 that are in order after exactly one of two loads."""
    rows = product(range(2), repeat=many)
    return [numbers for numbers in rows if is_in_order_after(numbers, one) != is_in_order_after(numbers, other)]


class Comparing(Case):

    def check_comparison_of(self, many, one, other):
        words = word_with(one), word_with(other)
        found = compare_words(many, *words)
        self.assertEqual([type(found), len(found)], [tuple, 2])
        apart = rows_apart(many, one, other)
        if not apart:
            self.assertEqual(found, ("alike", "equal" if one == other else "all"))
        else:
            self.assertEqual(found[0], "row")
            self.assertIs(type(found[1]), Row)
            self.assertEqual(len(found[1]), many)
            rows = [found[1] >> Load(*pair) for pair in (one, other)]
            self.assertIsNot(rows[0].is_in_order, rows[1].is_in_order)
        for numbers in product(range(2), repeat=many):
            self.assertIs(check_comparison(many, *words, ("row", Row(*numbers))), numbers in apart)
        self.assertIs(check_comparison(many, *words, ("alike", "equal")), one == other)
        self.assertIs(check_comparison(many, *words, ("alike", "all")), one != other and not apart)
        self.assertIs(check_comparison(many, *words, found), True)

    def test_all_loads_for_small_counts(self):
        for many in range(1, 5):
            for one in loads_up_to(many):
                for other in loads_up_to(many):
                    self.check_comparison_of(many, one, other)

    def test_some_loads_for_more_numbers(self):
        for many in (6, 7):
            for one in ((0, 0), (1, 2), (2, 1), (0, many - 2), (many - 1, 0), (3, many - 4), (2, many)):
                for other in loads_up_to(many)[::5]:
                    self.check_comparison_of(many, one, other)

    def test_all_counts(self):
        for many in range(1, 21):
            for one, other in product(((0, 0), (3, 4), (many - 1, 0), (0, many), (many // 2, many // 3)), repeat=2):
                words = word_with(one), word_with(other)
                found = compare_words(many, *words)
                self.assertIs(check_comparison(many, *words, found), True)
                is_alike = one == other or sum(one) >= many - 1 <= sum(other)
                self.assertEqual(found[0], "alike" if is_alike else "row")

    def test_the_words_matter_by_their_loads_alone(self):
        for words in product(words_with(2, 1) + words_with(0, 3), repeat=2):
            loads = [load_of(word) for word in words]
            for many in (2, 3, 4, 5, 6):
                found = compare_words(many, *words)
                if loads[0] == loads[1]:
                    self.assertEqual(found, ("alike", "equal"))
                else:
                    self.assertEqual(found[0], "alike" if many <= 4 else "row")

    def test_great_loads(self):
        great, greatest = mixed_word(1200, 1199, 20), mixed_word(1200, 1200, 20)
        self.assertEqual(compare_words(20, great, greatest), ("alike", "all"))
        self.assertEqual(compare_words(20, greatest, greatest), ("alike", "equal"))
        for words in ((great, ()), ((), great)):
            self.assertEqual(compare_words(20, *words)[0], "row")
            self.assertEqual(compare_words(1, *words), ("alike", "all"))
        self.assertEqual(compare_words(1, (), ()), ("alike", "equal"))

    def test_by_name(self):
        found = compare_words(other=(Forward(1),), one=(Backward(1),), many=4)
        self.assertEqual(found[0], "row")
        self.assertIs(check_comparison(value=found, other=(Forward(1),), one=(Backward(1),), many=4), True)

    def test_words_stay(self):
        words = [Forward(1)], [Backward(1)]
        self.check_error(lambda: compare_words(4, *words), InvalidWord, position=None)
        self.assertEqual(words, ([Forward(1)], [Backward(1)]))


class CheckingComparisons(Case):

    CASES = (
        (4, word_with((1, 0)), word_with((0, 1)), ("row", Row(1, 1, 0, 1))),
        (3, word_with((1, 1)), word_with((0, 2)), ("alike", "all")),
        (3, word_with((0, 1)), (Backward(1),), ("alike", "equal")),
    )

    def refuse(self, many, one, other, value):
        with self.subTest(value=value):
            self.assertIs(check_comparison(many, one, other, value), False)

    def test_values_of_every_kind(self):
        for many, one, other, right in self.CASES:
            self.assertIs(check_comparison(many, one, other, right), True)
            for value in values_of_every_kind() + [one, other, load_of(one)]:
                for wrong in (value, (value, right[1]), (right[0], value), (value, value), (*right, value)):
                    self.refuse(many, one, other, wrong)

    def test_other_tuples(self):
        for many, one, other, (word, shown) in self.CASES:
            for value in ((), (word,), (shown,), (word, shown, None), ((word, shown),), [word, shown], {word: shown}):
                self.refuse(many, one, other, value)
            for value in (("alike ", shown), ("Row", shown), ("rows", shown), (b"row", shown), (shown, word)):
                self.refuse(many, one, other, value)
            for value in (("alike", "Equal"), ("alike", ""), ("alike", b"all"), ("alike", ("all",)), ("row", "all")):
                self.refuse(many, one, other, value)
            for value in (("alike", "equal"), ("alike", "all")):
                self.assertIs(check_comparison(many, one, other, value), value == (word, shown))

    def test_rows(self):
        one, other = word_with((1, 0)), word_with((0, 1))
        for numbers, expected in (
            ((1, 1, 0, 1), True), ((7, 9, -3, 999), True), ((1, 0, 0, 1), True), ((1, 1, 0, 0), False),
            ((0, 1, 2, 3), False), ((1, 0, 1, 1), False), ((1, 1, 0), False), ((1, 1, 0, 1, 1), False), ((1,), False),
        ):
            self.assertIs(check_comparison(4, one, other, ("row", Row(*numbers))), expected)
            self.refuse(4, one, other, ("row", numbers))
            self.refuse(4, one, other, ("row", list(numbers)))


class Errors(Case):

    def check_both(self, many, one, other, error, **fields):
        for act in (
            lambda: compare_words(many, one, other),
            lambda: check_comparison(many, one, other, ("alike", "equal")),
            lambda: check_comparison(many, one, other, None),
        ):
            self.check_error(act, error, **fields)

    def test_wrong_counts(self):
        words = ((), (Forward(1),), LONG, [Forward(1)], None)
        for value in not_integers() + [0, 21, 22, -1, 10 ** 999, -10 ** 999, GivesSignsAMeaning()]:
            for one in words:
                with self.subTest(value=value, one=one):
                    self.check_both(value, one, None, InvalidCount, value=value)

    def test_wrong_words(self):
        for wrong, position in WRONG_WORDS:
            for other in ((), (Backward(1),), LONG, None, [1]):
                self.check_both(4, wrong, other, InvalidWord, position=position)
            self.check_both(4, (Backward(1),), wrong, InvalidWord, position=position)
            self.check_both(4, LONG, wrong, LimitExceeded, limit=1200)
        for value in values_of_every_kind():
            if not isinstance(value, (tuple, Forward, Backward)):
                self.check_both(4, value, LONG, InvalidWord, position=None)
                self.check_both(4, (Forward(1), value), LONG, InvalidWord, position=1)

    def test_great_words(self):
        for pair in ((1201, 0), (0, 1201), (1300, 1300)):
            word = mixed_word(*pair, 20)
            for other in ((), LONG, None, [1], (1,)):
                self.check_both(20, word, other, LimitExceeded, limit=1200)
            self.check_both(20, (Forward(1),), word, LimitExceeded, limit=1200)
