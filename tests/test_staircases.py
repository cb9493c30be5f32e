"""The class Staircase of module handsweeps.staircases: points [4], [13], [16] and [23]."""

import operator

from handsweeps.errors import InvalidLoad, InvalidStairs, LimitExceeded
from handsweeps.loads import Load
from handsweeps.rows import Row
from handsweeps.staircases import Staircase
from handsweeps.sweeps import Forward
from tests.cases import Case
from tests.samples import (
    GivesSignsAMeaning, loads_up_to, not_integers, operators_of, pairs_of, values_of_every_kind,
)

# The pairs of numbers of least loads.
SMALL = [
    [(0, 0)],
    [(0, 1), (1, 0)],
    [(0, 3), (1, 0)],
    [(0, 1), (4, 0)],
    [(0, 3), (1, 2), (3, 0)],
    [(0, 5), (2, 2), (3, 1), (4, 0)],
    [(0, 4), (1, 3), (2, 2), (3, 1), (4, 0)],
]
GREAT = [
    [(0, 1200), (1200, 0)],
    [(0, 1200), (600, 600), (1200, 0)],
    [(0, 1200), (1199, 1), (1200, 0)],
    [(position, 99 - position) for position in range(100)],
    [(12 * position, 11 * (99 - position)) for position in range(100)],
]
# 99 corners, whose numbers are far apart at one end.
CORNERS = tuple((position, 1200 - 3 * position) for position in range(1, 100))


def stairs_with(pairs):
    return Staircase(*[Load(*pair) for pair in pairs])


def covers_one(pair, pairs):
    """Whether a load covers one of some others ([16])."""
    return any(pair[0] >= forward and pair[1] >= backward for forward, backward in pairs)


class FromLeastLoads(Case):

    def test_least_loads(self):
        for pairs in SMALL + GREAT:
            stairs = stairs_with(pairs)
            self.assertEqual(pairs_of(stairs.least()), pairs)
            self.assertEqual([type(load) for load in stairs.least()], [Load] * len(pairs))
            self.assertEqual(len(stairs), len(pairs))

    def test_most(self):
        self.assertEqual([Staircase.MOST, stairs_with(SMALL[0]).MOST], [100, 100])

    def check_position(self, values, position):
        self.check_error(lambda: Staircase(*values), InvalidStairs, position=position)

    def test_how_many(self):
        self.check_position((), None)
        for many in (101, 102, 500):
            self.check_position([Load(place, many - 1 - place) for place in range(many)], None)
            self.check_position([None] * many, None)
        self.assertEqual(len(stairs_with([(place, 99 - place) for place in range(100)])), 100)

    def test_values_that_are_no_loads(self):
        pairs = SMALL[5]
        for value in [*values_of_every_kind(), (1, 1), [0, 5], (0, 0)]:
            if isinstance(value, Load):
                continue
            for position in range(4):
                with self.subTest(value=value, position=position):
                    values = [Load(*pair) for pair in pairs]
                    values[position] = value
                    self.check_position(values, position)
                    self.check_position(values[:position] + [value] * 5, position)
        self.check_position([[Load(0, 0)]], 0)
        self.check_position([(Load(0, 1), Load(1, 0))], 0)

    def test_the_first_forward_number(self):
        for forward in (1, 2, 1200):
            self.check_position([Load(forward, 0)], 0)
            self.check_position([Load(forward, 3), Load(forward, 3), None], 0)

    def test_loads_that_cannot_stand_behind_others(self):
        for wrong in ((2, 3), (2, 4), (1, 3), (0, 3), (3, 4), (3, 5), (3, 7), (2, 0), (0, 0), (1, 5), (0, 7)):
            self.check_position([Load(0, 7), Load(2, 4), Load(*wrong)], 2)
            self.check_position([Load(0, 7), Load(2, 4), Load(*wrong), Load(9, 0)], 2)
        self.check_position([Load(0, 0), Load(1, 0)], 1)
        self.check_position([Load(0, 0), Load(0, 0)], 1)
        self.check_position([Load(0, 5), Load(0, 3)], 1)
        self.check_position([Load(0, 5), Load(3, 2), Load(2, 1), None], 2)

    def test_the_last_backward_number(self):
        self.check_position([Load(0, 1)], 0)
        self.check_position([Load(0, 1200)], 0)
        self.check_position([Load(0, 5), Load(3, 1)], 1)
        self.check_position([Load(place, 100 - place) for place in range(100)], 99)
        # Only when nothing else is wrong.
        self.check_position([Load(0, 5), 3, Load(3, 1)], 1)
        self.check_position([Load(2, 1)], 0)


class FromCorners(Case):

    def test_corners(self):
        for pairs in SMALL + GREAT:
            expected = tuple((after[0], before[1]) for before, after in zip(pairs, pairs[1:]))
            stairs = stairs_with(pairs)
            self.assertIs(type(stairs.corners()), tuple)
            self.assertEqual(stairs.corners(), expected)
            for made in (Staircase.of_corners(expected), Staircase.of_corners(corners=expected)):
                self.assertIs(type(made), Staircase)
                self.assertEqual(pairs_of(made.least()), pairs)

    def test_corners_by_their_neighbours(self):
        for pairs in SMALL:
            has = {pair: covers_one(pair, pairs) for pair in loads_up_to(8)}
            expected = [
                (p, q) for p in range(1, 8) for q in range(1, 8)
                if not has[p - 1, q - 1] and has[p, q - 1] and has[p - 1, q]
            ]
            self.assertEqual(list(stairs_with(pairs).corners()), expected)

    def test_no_corners_and_99(self):
        self.assertEqual(pairs_of(Staircase.of_corners(()).least()), [(0, 0)])
        stairs = Staircase.of_corners(CORNERS)
        self.assertEqual([len(stairs), stairs.corners()], [100, CORNERS])
        self.assertEqual(Staircase.of_corners(((1200, 1200),)).corners(), ((1200, 1200),))

    def check_position(self, corners, position):
        self.check_error(lambda: Staircase.of_corners(corners), InvalidStairs, position=position)

    def test_no_tuple(self):
        for value in values_of_every_kind() + [[(1, 1)], [], {(1, 1): 1}, stairs_with(SMALL[1]), Load(1, 1)]:
            if not isinstance(value, tuple):
                with self.subTest(value=value):
                    self.check_position(value, None)

    def test_too_many(self):
        self.check_position((*CORNERS, (100, 1)), None)
        self.check_position((None,) * 100, None)
        self.check_position((None,) * 99, 0)

    def test_values_that_are_no_pairs(self):
        wrong = [[2, 2], (2,), (2, 2, 2), (), ((2, 2),), (2, (2,)), Load(2, 2), "22", {2: 2}]
        for number in not_integers() + [0, -1, 1201, 1202, 10 ** 999, -10 ** 999, GivesSignsAMeaning()]:
            wrong += [(number, 2), (2, number), (number, number)]
        for value in wrong + [value for value in values_of_every_kind() if value != (1, 2)]:
            with self.subTest(value=value):
                self.check_position((value,), 0)
                self.check_position((value, (3, 1)), 0)
                self.check_position(((1, 3), value, (3, 1)), 1)
                self.check_position(((1, 3), (2, 2), (3, 1), value, value), 3)

    def test_pairs_that_cannot_stand_behind_others(self):
        for wrong in ((3, 4), (3, 3), (4, 4), (2, 3), (3, 5), (4, 5), (1, 1), (5, 7), (2, 7)):
            self.check_position(((2, 7), (3, 4), wrong), 2)
            self.check_position(((2, 7), (3, 4), wrong, (9, 1)), 2)
        self.check_position(((1, 1), (1, 1)), 1)
        self.check_position(((1, 1), (2, 1), None), 1)
        self.check_position(((1200, 1), (1201, 1)), 1)


class Reading(Case):

    def test_in(self):
        for pairs in SMALL:
            stairs = stairs_with(pairs)
            corners = stairs.corners()
            for pair in loads_up_to(7):
                expected = covers_one(pair, pairs)
                self.assertIs(Load(*pair) in stairs, expected)
                self.assertIs(Load(*pair) not in stairs, not expected)
                self.assertIs(all(pair[0] >= p or pair[1] >= q for p, q in corners), expected)

    def test_in_with_great_numbers(self):
        for pairs in GREAT:
            stairs = stairs_with(pairs)
            for forward in (0, 1, 11, 12, 13, 50, 99, 599, 600, 601, 1188, 1199, 1200):
                for backward in (0, 1, 10, 11, 12, 49, 99, 600, 1089, 1199, 1200):
                    expected = covers_one((forward, backward), pairs)
                    self.assertIs(Load(forward, backward) in stairs, expected)

    def test_other_values_are_not_in(self):
        for stairs in (stairs_with(SMALL[0]), stairs_with(SMALL[4])):
            for value in values_of_every_kind() + [(0, 0), (5, 5), [5, 5], stairs, Row(5, 5), Forward(20)]:
                if not isinstance(value, Load):
                    with self.subTest(value=value):
                        self.assertIs(value in stairs, False)
                        self.assertIs(value not in stairs, True)

    def test_least_backward_numbers(self):
        for pairs in SMALL + GREAT:
            stairs = stairs_with(pairs)
            for forward in range(1201):
                expected = min(pair[1] for pair in pairs if pair[0] <= forward)
                self.assertEqual(stairs(forward), expected)
        self.assertEqual(stairs_with(SMALL[4])(forward=2), 2)

    def test_wrong_forward_numbers(self):
        for stairs in (stairs_with(SMALL[0]), stairs_with(GREAT[3])):
            for value in not_integers() + [-1, -2, 1201, 1202, 10 ** 999, -10 ** 999, GivesSignsAMeaning()]:
                with self.subTest(value=value):
                    self.check_error(lambda: stairs(value), InvalidLoad, value=value)

    def test_two_walks_at_once(self):
        stairs = stairs_with(SMALL[4])
        one, other = stairs.least(), stairs.least()
        walked = [next(walk) for walk in (one, one, other, one, other, other)]
        self.assertEqual(pairs_of(walked), [(0, 3), (1, 2), (0, 3), (3, 0), (1, 2), (3, 0)])
        self.assertEqual([list(one), list(other)], [[], []])
        self.assertEqual([len(list(stairs.least())) for load in stairs.least()], [3, 3, 3])

    def test_a_staircase_is_not_iterated_over(self):
        for act in (list, tuple, iter, sorted, sum, set):
            self.assertRaises(TypeError, act, stairs_with(SMALL[4]))


class Equality(Case):

    def test_staircases(self):
        for one in SMALL + GREAT:
            for other in SMALL + GREAT:
                self.assertIs(stairs_with(one) == stairs_with(other), one == other)
                self.assertIs(stairs_with(one) != stairs_with(other), one != other)

    def test_however_they_were_made(self):
        stairs = Staircase.of_row(Row(2, 3, 0, 1))
        for other in (Staircase.of_corners(((2, 2),)), Staircase(Load(0, 2), Load(2, 0)), --stairs, stairs & stairs):
            self.assertIs(stairs == other, True)
            self.assertIs(stairs != other, False)

    def test_other_values(self):
        stairs = stairs_with(SMALL[0])
        for value in values_of_every_kind() + [((0, 0),), Load(0, 0), (Load(0, 0),), Row(1)]:
            if not isinstance(value, Staircase):
                with self.subTest(value=value):
                    self.assertIs(stairs == value, False)
                    self.assertIs(stairs != value, True)


class Combining(Case):

    def test_small_ones(self):
        for one in SMALL:
            for other in SMALL:
                first, second = stairs_with(one), stairs_with(other)
                both, some = first & second, first | second
                self.assertEqual([type(both), type(some)], [Staircase, Staircase])
                for pair in loads_up_to(7):
                    load = Load(*pair)
                    self.assertIs(load in both, covers_one(pair, one) and covers_one(pair, other))
                    self.assertIs(load in some, covers_one(pair, one) or covers_one(pair, other))
                self.assertEqual([pairs_of(first.least()), pairs_of(second.least())], [one, other])

    def test_great_ones(self):
        # Where neither goes beyond 100 least loads; the other cases stand below.
        for one in GREAT[:3] + SMALL:
            for other in GREAT[:3] + SMALL:
                first, second = stairs_with(one), stairs_with(other)
                for forward in (0, 1, 2, 3, 599, 600, 1199, 1200):
                    lines = first(forward), second(forward)
                    self.assertEqual((first & second)(forward), max(lines))
                    self.assertEqual((first | second)(forward), min(lines))

    def loads_for_both(self, many):
        """Two lists of least loads, 60 and some; the loads of both have 60 least ones and so many more."""
        one = [(place, 1000 - place) for place in range(59)] + [(1000, 0)]
        other = [(0, 1100)] + [(100 + place, 900 - place) for place in range(many)] + [(900, 0)]
        return one, other

    def test_the_limit_of_the_loads_of_both(self):
        for many in (0, 1, 39, 40):
            one, other = self.loads_for_both(many)
            for stairs in (stairs_with(one) | stairs_with(other), stairs_with(other) | stairs_with(one)):
                self.assertEqual(pairs_of(stairs.least()), one[:-1] + other[1:])
                self.assertEqual(len(stairs), 60 + many)
        for many in (41, 42, 98):
            first, second = [stairs_with(pairs) for pairs in self.loads_for_both(many)]
            for act in (lambda: first | second, lambda: second | first):
                self.check_error(act, LimitExceeded, limit=100)

    def corners_for_both(self, many):
        """59 corners, and so many others, all of which their common part has."""
        one = tuple((place, 1001 - place) for place in range(1, 60))
        return one, tuple((100 + place, 900 - place) for place in range(many))

    def test_the_limit_of_the_common_part(self):
        for many in (0, 1, 39, 40):
            one, other = self.corners_for_both(many)
            first, second = Staircase.of_corners(one), Staircase.of_corners(other)
            for stairs in (first & second, second & first):
                self.assertEqual(stairs.corners(), one + other)
                self.assertEqual(len(stairs), 60 + many)
        for many in (41, 42, 99):
            first, second = [Staircase.of_corners(corners) for corners in self.corners_for_both(many)]
            for act in (lambda: first & second, lambda: second & first):
                self.check_error(act, LimitExceeded, limit=100)

    def test_100_least_loads_with_themselves(self):
        stairs = stairs_with(GREAT[4])
        self.assertEqual([stairs & stairs, stairs | stairs], [stairs, stairs])

    def test_exchanged_numbers(self):
        for pairs in SMALL + GREAT:
            stairs = stairs_with(pairs)
            self.assertIs(type(-stairs), Staircase)
            self.assertEqual(pairs_of((-stairs).least()), [pair[::-1] for pair in pairs[::-1]])
            self.assertEqual(pairs_of(stairs.least()), pairs)


class Shifting(Case):

    def test_small_ones(self):
        for pairs in SMALL:
            stairs = stairs_with(pairs)
            for a, b in loads_up_to(6):
                load = Load(a, b)
                shifted = stairs.shifted(load)
                self.assertIs(type(shifted), Staircase)
                for x, y in loads_up_to(6):
                    self.assertIs(Load(x, y) in shifted, covers_one((a + x, b + y), pairs))
                self.assertEqual([pairs_of(stairs.least()), a, b], [pairs, load.forward, load.backward])

    def test_great_ones(self):
        for pairs in GREAT:
            stairs = stairs_with(pairs)
            for a, b in ((0, 0), (1, 0), (0, 1), (50, 3), (599, 601), (1199, 0), (1200, 0), (0, 1200), (1200, 1200)):
                shifted = stairs.shifted(load=Load(a, b))
                for x in (0, 1, 2, 49, 50, 51, 598, 599, 600, 601, 1199, 1200):
                    lines = [max(0, backward - b) for forward, backward in pairs if forward <= a + x]
                    self.assertEqual(shifted(x), min(lines))


class Operators(Case):

    def test_other_values(self):
        stairs = stairs_with(SMALL[4])
        for value in values_of_every_kind() + [Load(1, 1), Row(1, 2)]:
            for act in operators_of():
                is_described = act in (operator.and_, operator.or_) and isinstance(value, Staircase)
                if is_described or isinstance(value, GivesSignsAMeaning):
                    continue
                with self.subTest(act=act, value=value):
                    self.assertRaises(TypeError, act, stairs, value)
                    self.assertRaises(TypeError, act, value, stairs)
        self.assertRaises(TypeError, lambda: stairs & GivesSignsAMeaning())
        self.assertRaises(TypeError, lambda: stairs | GivesSignsAMeaning())
        self.assertEqual(pairs_of(stairs.least()), SMALL[4])

    def test_other_signs(self):
        for act in (operator.pos, operator.invert, abs):
            self.assertRaises(TypeError, act, stairs_with(SMALL[4]))
        with self.assertRaises(TypeError):
            stairs_with(SMALL[4])[0]
