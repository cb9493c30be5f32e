"""Module handsweeps.borders: points [40] to [43]."""

import sys
from itertools import islice, permutations, product
from time import perf_counter

from handsweeps.borders import (
    all_stairs, count_stairs, order_for, profile, profiles_between, rank_of, stairs_by_rank, stairs_of,
)
from handsweeps.errors import InvalidCount, InvalidProfile, InvalidRank, LimitExceeded, NotOfCount
from handsweeps.loads import Load
from handsweeps.rows import Row
from handsweeps.staircases import Staircase
from tests.cases import Case
from tests.samples import (
    GivesSignsAMeaning, chance_profiles, not_integers, profiles, stairs_with, values_of_every_kind,
)

# How many staircases of n numbers there are, for n from 0 on.
NUMBERS = [1]
for _ in range(20):
    NUMBERS.append(sum(one * other for one, other in zip(NUMBERS, NUMBERS[::-1])))

FUNCTIONS_OF_STAIRS = (profile, order_for, rank_of)


def wrong_counts():
    return not_integers() + [0, 21, 22, -1, -20, 10 ** 999, -10 ** 999, GivesSignsAMeaning()]


class Profiles(Case):

    def test_small_counts(self):
        for many in range(1, 7):
            for values in profiles(many):
                stairs = stairs_with(values)
                self.assertEqual(profile(many, stairs), values)
                self.assertIs(type(profile(many, stairs)), tuple)
                self.assertEqual(stairs_of(values), stairs)
                self.assertIs(type(stairs_of(values)), Staircase)

    def test_all_counts(self):
        for many in range(1, 21):
            for values in chance_profiles(many, 20):
                self.assertEqual(profile(many, stairs_with(values)), values)
                self.assertEqual(stairs_of(values), stairs_with(values))

    def test_more_numbers_than_needed(self):
        stairs = Staircase.of_corners(((1, 3), (2, 1)))
        self.assertEqual(profile(4, stairs), (3, 1, 0, 0))
        self.assertEqual(profile(6, stairs), (3, 1, 0, 0, 0, 0))
        self.assertEqual(profile(stairs=Staircase(Load(0, 0)), many=20), (0,) * 20)

    def test_profiles_of_rows(self):
        for many in range(1, 6):
            found = {profile(many, Staircase.of_row(Row(*numbers))) for numbers in permutations(range(many))}
            self.assertEqual(sorted(found), profiles(many))

    def test_staircases_that_are_not_of_the_count(self):
        for many in range(1, 21):
            for values in chance_profiles(many, 10):
                stairs = stairs_with(values)
                for fewer in range(1, many):
                    missing = [a for a in range(fewer) if Load(a, fewer - 1 - a) not in stairs]
                    for function in FUNCTIONS_OF_STAIRS:
                        if missing:
                            load = Load(missing[0], fewer - 1 - missing[0])
                            self.check_error(lambda: function(fewer, stairs), NotOfCount, load=load)
                        else:
                            function(fewer, stairs)

    def test_the_load_of_the_least_forward_number(self):
        for corners, many, load in (
            (((1, 4),), 4, (0, 3)), (((2, 3),), 4, (1, 2)), (((4, 1),), 4, (3, 0)), (((1200, 1200),), 20, (0, 19)),
            (((1, 3), (3, 2)), 4, (2, 1)), (((1, 1),), 1, (0, 0)), (((1200, 1),), 20, (19, 0)),
        ):
            for function in FUNCTIONS_OF_STAIRS:
                stairs = Staircase.of_corners(corners)
                self.check_error(lambda: function(many, stairs), NotOfCount, load=Load(*load))


class WrongProfiles(Case):

    def check_position(self, values, position):
        with self.subTest(values=values):
            self.check_error(lambda: stairs_of(values), InvalidProfile, position=position)

    def test_no_tuple_of_1_to_20_items(self):
        for value in values_of_every_kind() + [[0], [1, 0], (), (0,) * 21, (None,) * 22, {0: 0}, range(1)]:
            if not isinstance(value, tuple) or not 1 <= len(value) <= 20:
                self.check_position(value, None)

    def test_values_that_are_no_integers(self):
        for value in not_integers() + [GivesSignsAMeaning()]:
            for position in (0, 1, 4, 9):
                values = tuple(range(9, -1, -1))
                self.check_position((*values[:position], value, *values[position + 1:]), position)
                self.check_position(values[:position] + (value,) * (10 - position), position)
            self.check_position((value,), 0)

    def test_all_tuples_of_few_integers(self):
        for many in range(1, 5):
            for values in product(range(-1, 5), repeat=many):
                wrong = [
                    place for place in range(many)
                    if not 0 <= values[place] <= many - 1 - place or (place and values[place] > values[place - 1])
                ]
                if wrong:
                    self.check_position(values, wrong[0])
                else:
                    self.assertEqual(profile(many, stairs_of(values=values)), values)

    def test_great_integers(self):
        for value in (20, 21, 1200, 10 ** 999, -1, -10 ** 999):
            self.check_position((value,) + (0,) * 19, 0)
            self.check_position((19,) * 2 + (value,) + (0,) * 17, 1)
            self.check_position((19,) + (18,) + (value,) + (0,) * 17, 2)
            self.check_position((0,) * 19 + (value,), 19)


class Orders(Case):

    def check_order(self, many, values):
        stairs = stairs_with(values)
        order = order_for(many, stairs)
        self.assertIs(type(order), Row)
        self.assertEqual(sorted(order.numbers), list(range(many)))
        self.assertEqual(Staircase.of_row(order), stairs)
        self.assertEqual(profile(many, stairs), values)

    def test_small_counts(self):
        for many in range(1, 8):
            for values in profiles(many):
                self.check_order(many, values)

    def test_all_counts(self):
        for many in range(1, 21):
            for values in chance_profiles(many, 40):
                self.check_order(many, values)

    def test_20_numbers_take_no_long_time(self):
        shapes = [tuple(max(0, top - place * step) for place in range(20)) for top in range(20) for step in range(1, 20)]
        shapes += [tuple(min(top, 19 - place) for place in range(20)) for top in range(20)]
        shapes += [tuple(top if place < end else 0 for place in range(20)) for top in range(20) for end in range(20 - top)]
        shapes += [tuple((19 - place) // step * step for place in range(20)) for step in range(1, 20)]
        start = perf_counter()
        for values in shapes:
            order_for(20, stairs_of(values))
        self.assertLess(perf_counter() - start, 10)
        for values in shapes:
            self.check_order(20, values)

    def test_by_name(self):
        self.assertEqual(order_for(stairs=Staircase(Load(0, 0)), many=3), Row(0, 1, 2))


class Ranks(Case):

    def test_how_many(self):
        self.assertEqual([count_stairs(many) for many in range(1, 6)], [1, 2, 5, 14, 42])
        for many in range(1, 21):
            self.assertEqual(count_stairs(many=many), NUMBERS[many])
        self.assertEqual(count_stairs(20), 6564120420)

    def test_all_of_small_counts(self):
        for many in range(1, 8):
            expected = profiles(many)
            self.assertEqual(len(expected), NUMBERS[many])
            self.assertEqual([profile(many, stairs) for stairs in all_stairs(many)], expected)
            for rank, values in enumerate(expected):
                self.assertEqual(rank_of(many, stairs_with(values)), rank)
                self.assertEqual(stairs_by_rank(many, rank), stairs_with(values))

    def test_all_counts(self):
        for many in range(1, 21):
            pairs = sorted((values, rank_of(many, stairs_with(values))) for values in chance_profiles(many, 30))
            for values, rank in pairs:
                self.assertEqual(profile(many, stairs_by_rank(many, rank)), values)
            ranks = [rank for _, rank in pairs]
            self.assertEqual(ranks, sorted(ranks))
            self.assertEqual([ranks[0], ranks[-1]], [0, NUMBERS[many] - 1])

    def test_neighbours(self):
        # No profile of 20 numbers lies between one and the next.
        for rank in (0, 1, 19, 20, 5000, 10 ** 6, 6564120418):
            one, other = [profile(20, stairs_by_rank(rank=rank + step, many=20)) for step in (0, 1)]
            self.assertLess(one, other)
            place = [a == b for a, b in zip(one, other)].index(False)
            self.assertEqual(other[place], one[place] + 1)
            self.assertEqual(other[place + 1:], (0,) * (19 - place))
            most = [min(one[place], 19 - later) for later in range(place + 1, 20)]
            self.assertEqual(list(one[place + 1:]), most)

    def test_wrong_ranks(self):
        for many in (1, 3, 9, 20):
            for value in not_integers() + [-1, NUMBERS[many], NUMBERS[many] + 1, 10 ** 999, -10 ** 999]:
                with self.subTest(many=many, value=value):
                    self.check_error(lambda: stairs_by_rank(many, value), InvalidRank, value=value)
            stairs_by_rank(many, NUMBERS[many] - 1)


def lines_until(many, told):
    """How many lines of Python run until a walk has told so many staircases."""
    lines = 0

    def count_line(frame, event, argument):
        nonlocal lines
        lines += event == "line"
        return count_line

    before = sys.gettrace()
    sys.settrace(count_line)
    try:
        list(islice(all_stairs(many), told))
    finally:
        sys.settrace(before)
    return lines


class AllStairs(Case):

    def test_ascending_ranks(self):
        for many in range(1, 10):
            walked = list(all_stairs(many=many))
            self.assertEqual(len(walked), count_stairs(many))
            self.assertEqual(len(walked), NUMBERS[many])
            for rank, stairs in enumerate(walked):
                self.assertIs(type(stairs), Staircase)
                self.assertEqual(stairs, stairs_by_rank(many, rank))
                self.assertEqual(rank_of(many, stairs), rank)
            found = [profile(many, stairs) for stairs in walked]
            self.assertEqual(found, sorted(set(found)))
            self.assertEqual([found[0], found[-1]], [(0,) * many, tuple(range(many - 1, -1, -1))])

    def test_profiles_between_others(self):
        # Plans walk through a part of the profiles in the same way.
        for many in range(1, 6):
            found = profiles(many)
            for low, high in product(found, repeat=2):
                if all(least <= most for least, most in zip(low, high)):
                    expected = [
                        values for values in found
                        if all(least <= value <= most for least, value, most in zip(low, values, high))
                    ]
                    self.assertEqual(list(profiles_between(low, high)), expected)

    def test_a_walk_that_is_left(self):
        for many in range(1, 10):
            for told in (1, 2, 3, 7, NUMBERS[many] // 2, NUMBERS[many] - 1):
                expected = [stairs_by_rank(many, rank) for rank in range(min(told, NUMBERS[many]))]
                self.assertEqual(list(islice(all_stairs(many), told)), expected)
                left = all_stairs(many)
                self.assertEqual([next(left) for _ in expected], expected)
                left.close()
                self.assertEqual(list(left), [])
                self.assertEqual(next(all_stairs(many)), Staircase(Load(0, 0)))

    def test_a_staircase_waits_for_none_of_those_behind_it(self):
        # Lines are counted instead of time, so that it does not matter what else the machine does.
        for many in range(1, 10):
            for told in (1, 2, 10, 100, 1000, 4862):
                told = min(told, NUMBERS[many])
                self.assertLess(lines_until(many, told), 200 * told)

    def test_two_walks_at_once(self):
        one, other = all_stairs(3), all_stairs(3)
        walked = [profile(3, next(walk)) for walk in (one, one, other, one, other)]
        self.assertEqual(walked, [(0, 0, 0), (1, 0, 0), (0, 0, 0), (1, 1, 0), (1, 0, 0)])
        self.assertEqual([len(list(one)), len(list(other))], [2, 3])
        self.assertEqual([len(list(all_stairs(4))) for _ in all_stairs(2)], [14, 14])

    def test_two_walks_amid_each_other(self):
        for many in range(1, 10):
            expected = list(all_stairs(many))
            one, other = all_stairs(many), all_stairs(many)
            walked = [next(one)]
            behind = []
            for stairs in one:
                walked.append(stairs)
                behind.append(next(other))
            self.assertEqual(walked, expected)
            self.assertEqual(behind + list(other), expected)

    def test_walks_of_different_counts_amid_each_other(self):
        for many, fewer in ((9, 8), (9, 1), (7, 6), (4, 3), (2, 1)):
            pairs = list(zip(all_stairs(fewer), all_stairs(many)))
            self.assertEqual([one for one, _ in pairs], list(all_stairs(fewer)))
            self.assertEqual([other for _, other in pairs], list(islice(all_stairs(many), NUMBERS[fewer])))

    def test_the_limit_comes_with_the_first_item(self):
        for many in range(10, 21):
            walk = all_stairs(many)
            self.check_error(lambda: next(walk), LimitExceeded, limit=9)
            self.check_error(lambda: list(all_stairs(many=many)), LimitExceeded, limit=9)

    def test_wrong_counts_are_told_with_the_first_item(self):
        for value in wrong_counts():
            with self.subTest(value=value):
                walk = all_stairs(value)
                self.check_error(lambda: next(walk), InvalidCount, value=value)


class WrongCounts(Case):

    def test_values_of_every_kind(self):
        stairs = Staircase.of_corners(((1200, 1200),))
        for value in wrong_counts():
            for act in (
                lambda: profile(value, stairs), lambda: order_for(value, stairs), lambda: rank_of(value, stairs),
                lambda: count_stairs(value), lambda: stairs_by_rank(value, None), lambda: next(all_stairs(value)),
            ):
                with self.subTest(value=value):
                    self.check_error(act, InvalidCount, value=value)
