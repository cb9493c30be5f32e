"""Staircases of rows, and the cuts that show them: points [14] to [16], [22], [23] and [26]."""

from handsweeps.cuts import Cut, counts
from handsweeps.loads import Load
from handsweeps.rows import Row
from handsweeps.staircases import Staircase, corner_cuts, shows_stairs
from handsweeps.sweeps import Backward, Forward
from tests.cases import Case
from tests.samples import (
    GivesSignsAMeaning, after_load, counts_of_cuts, is_beyond_no_cut, loads_up_to, mixed_rows, pairs_of, small_rows,
    values_of_every_kind,
)

LONG_ROWS = [
    tuple(range(19, -1, -1)), tuple(range(20)), (5,) * 20, (1, 0) * 10, (999,) * 10 + (-999,) * 10,
    (1,) * 8 + (0,) * 6 + (1,) * 6, (7,), (-999,), (999, -999), (-999, 999),
]


def is_ascending(numbers):
    return list(numbers) == sorted(numbers)


def corners_by_cuts(numbers):
    """The counts of cuts that are no further in than those of another one, ascending."""
    pairs = counts_of_cuts(numbers)
    found = []
    for p, q in pairs:
        is_covered = any(one >= p and other >= q and (one, other) != (p, q) for one, other in pairs)
        if p and q and not is_covered:
            found.append((p, q))
    return tuple(sorted(found))


class OfRow(Case):

    def test_small_rows_and_what_becomes_of_them(self):
        for numbers in small_rows(5):
            stairs = Staircase.of_row(Row(*numbers))
            for pair in loads_up_to(len(numbers)):
                self.assertIs(Load(*pair) in stairs, is_ascending(after_load(numbers, *pair)))

    def test_all_cuts(self):
        for numbers in small_rows(4) + mixed_rows(60) + LONG_ROWS:
            stairs = Staircase.of_row(Row(*numbers))
            pairs = counts_of_cuts(numbers)
            for forward in range(22):
                expected = max([small for great, small in pairs if great > forward], default=0)
                self.assertEqual(stairs(forward), expected)
            self.assertEqual(stairs.corners(), corners_by_cuts(numbers))
        self.assertTrue(is_beyond_no_cut((2, 3, 0, 1), (2, 0)))
        self.assertFalse(is_beyond_no_cut((2, 3, 0, 1), (1, 1)))

    def test_rows_with_one_corner(self):
        for many in range(2, 21):
            for forward in range(1, many):
                for backward in range(1, many - forward + 1):
                    numbers = (1,) * forward + (0,) * backward + (1,) * (many - forward - backward)
                    stairs = Staircase.of_row(row=Row(*numbers))
                    self.assertIs(type(stairs), Staircase)
                    self.assertEqual(stairs.corners(), ((forward, backward),))

    def test_rows_in_order(self):
        for numbers in ((1,), (3, 3, 3), tuple(range(20)), (-999, 0, 999)):
            self.assertEqual(pairs_of(Staircase.of_row(Row(*numbers)).least()), [(0, 0)])

    def test_the_descending_row(self):
        stairs = Staircase.of_row(Row(*range(19, -1, -1)))
        self.assertEqual(pairs_of(stairs.least()), [(place, 19 - place) for place in range(20)])

    def test_after_a_load(self):
        for numbers in small_rows(4) + mixed_rows(40):
            row = Row(*numbers)
            stairs = Staircase.of_row(row)
            for load in (Load(0, 0), Load(1, 0), Load(0, 1), Load(2, 3), Load(7, 1), Load(1200, 1200)):
                self.assertEqual(Staircase.of_row(row >> load), stairs.shifted(load))
            self.assertEqual(Staircase.of_row(row >> Forward(2)), stairs.shifted(Load(2, 0)))
            self.assertEqual(Staircase.of_row(row >> Backward(3)), stairs.shifted(Load(0, 3)))
            self.assertEqual(row.numbers, numbers)

    def test_mirrored_rows(self):
        for numbers in small_rows(4) + mixed_rows(40):
            row = Row(*numbers)
            self.assertEqual(Staircase.of_row(-row), -Staircase.of_row(row))

    def test_one_row_behind_another(self):
        for one in small_rows(3):
            for other in small_rows(3):
                if max(one) <= min(other):
                    first, second = Row(*one), Row(*other)
                    common = Staircase.of_row(first) & Staircase.of_row(second)
                    self.assertEqual(Staircase.of_row(first + second), common)

    def test_forward_sweeps_alone(self):
        for numbers in small_rows(5) + mixed_rows(40):
            stairs = Staircase.of_row(Row(*numbers))
            greater = [len([one for one in numbers[:place] if one > number]) for place, number in enumerate(numbers)]
            self.assertEqual(pairs_of(stairs.least())[-1], (max(greater), 0))


class CornerCuts(Case):

    def test_counts_are_the_corners(self):
        for numbers in small_rows(5) + mixed_rows(60) + LONG_ROWS:
            row = Row(*numbers)
            cuts = corner_cuts(row)
            self.assertIs(type(cuts), tuple)
            self.assertEqual([type(cut) for cut in cuts], [Cut] * len(cuts))
            self.assertEqual(tuple(counts(row, cut) for cut in cuts), corners_by_cuts(numbers))
            self.assertIs(shows_stairs(row, Staircase.of_row(row), cuts), True)
            self.assertEqual(row.numbers, numbers)

    def test_by_name(self):
        row = Row(2, 3, 0, 1)
        cuts = corner_cuts(row=row)
        self.assertEqual([counts(row, cut) for cut in cuts], [(2, 2)])
        self.assertIs(shows_stairs(value=cuts, stairs=Staircase.of_row(row), row=row), True)


class ShowsStairs(Case):

    # Its corners are (1, 4) and (3, 1).
    ROW = Row(6, 2, 2, 0, 4)
    STAIRS = Staircase.of_row(ROW)

    def refuse(self, value, row=ROW, stairs=STAIRS):
        with self.subTest(value=value):
            self.assertIs(shows_stairs(row, stairs, value), False)

    def all_cuts(self, row):
        return [Cut(place, bound) for place in range(len(row) + 2) for bound in range(-1, 9)]

    def test_all_cuts_for_each_corner(self):
        self.assertEqual(self.STAIRS.corners(), ((1, 4), (3, 1)))
        one, other = corner_cuts(self.ROW)
        accepted = 0
        for cut in self.all_cuts(self.ROW):
            for position, corner, value in ((0, (1, 4), (cut, other)), (1, (3, 1), (one, cut))):
                great, small = (0, 0) if cut.place > 5 else counts(self.ROW, cut)
                expected = great >= corner[0] and small >= corner[1]
                self.assertIs(shows_stairs(self.ROW, self.STAIRS, value), expected)
                accepted += expected
        self.assertGreaterEqual(accepted, 4)

    def test_counts_that_are_greater(self):
        # Such a staircase has loads after which the row is not in order.
        row = Row(1, 1, 1, 0, 0)
        cut = Cut(3, 1)
        for p, q in loads_up_to(4):
            if p and q:
                stairs = Staircase.of_corners(((p, q),))
                self.assertIs(shows_stairs(row, stairs, (cut,)), (p, q) == (3, 2))

    def test_stairs_that_are_not_those_of_the_row(self):
        rows = [Row(*numbers) for numbers in small_rows(4)]
        some = [Staircase.of_row(row) for row in rows[::7]]
        for row in rows:
            own = Staircase.of_row(row)
            for stairs in some + [own & other for other in some[::5]] + [own | other for other in some[::5]]:
                values = [corner_cuts(row), (), (Cut(len(row), 2),), (Cut(0, 0), Cut(1, 1))]
                found = [shows_stairs(row, stairs, value) for value in values]
                self.assertIs(found[0], stairs == own)
                if stairs != own:
                    self.assertEqual(found, [False] * 4)

    def test_other_tuples(self):
        one, other = corner_cuts(self.ROW)
        for value in ((), (one,), (other,), (other, one), (one, one), (one, other, other), (one, other, None)):
            self.refuse(value)
        self.refuse(((one, other),))
        self.refuse([one, other])
        self.refuse({one.place: one, other.place: other})
        self.refuse(iter((one, other)))

    def test_values_of_every_kind(self):
        one, other = corner_cuts(self.ROW)
        for value in values_of_every_kind() + [(1, 3), (one.place, one.bound), Load(1, 3), self.ROW, self.STAIRS]:
            self.refuse(value)
            self.refuse((value, other))
            self.refuse((one, value))
            self.refuse((value, value))
        self.refuse(GivesSignsAMeaning(), row=Row(1), stairs=Staircase(Load(0, 0)))

    def test_rows_in_order(self):
        for row in (Row(1), Row(1, 2, 2)):
            stairs = Staircase(Load(0, 0))
            self.assertIs(shows_stairs(row, stairs, ()), True)
            for value in ([], None, {}, "", (None,), (Cut(0, 0),), ((),)):
                self.refuse(value, row, stairs)

    def test_places_that_the_row_does_not_have(self):
        row = Row(1, 0)
        stairs = Staircase.of_row(row)
        for place in range(21):
            self.assertIs(shows_stairs(row, stairs, (Cut(place, 1),)), place == 1)

    def test_values_stay(self):
        value = list(corner_cuts(self.ROW))
        copied = list(value)
        self.refuse(value)
        self.assertEqual(value, copied)
        self.assertEqual(self.ROW.numbers, (6, 2, 2, 0, 4))
