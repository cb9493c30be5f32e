"""Module handsweeps.batches: points [55] to [57]."""

import operator
from itertools import combinations

from handsweeps.batches import Batch
from handsweeps.errors import InvalidBatch, InvalidPlace
from handsweeps.loads import Load
from handsweeps.rows import Row
from handsweeps.staircases import Staircase
from handsweeps.sweeps import Backward, Forward
from tests.cases import Case
from tests.samples import (
    GivesSignsAMeaning, after_load, is_beyond_no_cut, loads_up_to, mixed_rows, not_integers, operators_of,
    small_rows, values_of_every_kind,
)

ROWS = (Row(2, 3, 0, 1), Row(1, 0), Row(3, 1, 2), Row(1, 2, 0))
SMALL = small_rows(4)
BATCHES = [
    [(2, 3, 0, 1), (1, 0), (3, 1, 2), (1, 2, 0)],
    [(1, 2), (5,)],
    [(7,)],
    [(1, 0)] * 4,
    [(2, 1, 0), (1, 2, 0), (2, 0, 1), (1, 0), (2, 1, 0)],
    [(3, 2, 1, 0), (1, 1, 1, 0), (1, 0, 0, 0), (1, 1, 0, 0)],
    [(1, 0, 0, 0, 0), (1, 1, 1, 1, 0), (4, 2, 3, 0, 1), (1, 1, 0, 0, 0), (1, 1, 1, 0, 0)],
    *[SMALL[place::37][:6] for place in range(20)],
    *[mixed_rows(60)[place::11] for place in range(11)],
    mixed_rows(20),
]


def is_ascending(numbers):
    return list(numbers) == sorted(numbers)


def own_all(positions, owners):
    """Whether each corner is owned by one of some rows."""
    return all(any(position in positions for position in own) for own in owners)


def cores(many, owners):
    """All sets of positions, ascending, that own all corners, and none of which can be left out ([56])."""
    found = []
    for size in range(many + 1):
        for positions in combinations(range(many), size):
            smaller = [[other for other in positions if other != position] for position in positions]
            if own_all(positions, owners) and not any(own_all(others, owners) for others in smaller):
                found.append(positions)
    return found


def first_core(many, owners):
    """The core of [56]: from the last row to the first one."""
    left = list(range(many))
    for position in range(many - 1, -1, -1):
        others = [other for other in left if other != position]
        mine = [own for own in owners if position in own]
        if all(any(other in own for other in others) for own in mine):
            left.remove(position)
    return tuple(left)


class Creating(Case):

    def test_rows(self):
        for many in range(1, 21):
            rows = tuple(Row(*numbers) for numbers in mixed_rows(many))
            for batch in (Batch(*rows), Batch.of(rows), Batch.of(rows=rows)):
                self.assertIs(type(batch), Batch)
                self.assertIs(type(batch.rows), tuple)
                self.assertEqual(batch.rows, rows)
                self.assertEqual(len(batch), many)

    def check_position(self, values, position):
        self.check_error(lambda: Batch(*values), InvalidBatch, position=position)
        self.check_error(lambda: Batch.of(tuple(values)), InvalidBatch, position=position)

    def test_how_many(self):
        self.check_position((), None)
        for many in (21, 22, 100):
            self.check_position((Row(1),) * many, None)
            self.check_position((None,) * many, None)

    def test_no_tuple(self):
        for value in values_of_every_kind() + [[Row(1)], [], Row(1, 2), Batch(Row(1)), {0: Row(1)}]:
            if not isinstance(value, tuple):
                with self.subTest(value=value):
                    self.check_error(lambda: Batch.of(value), InvalidBatch, position=None)

    def test_the_first_value_that_is_no_row(self):
        for value in values_of_every_kind() + [(1, 2), [1, 2], (Row(1),), Batch(Row(1))]:
            if isinstance(value, Row):
                continue
            with self.subTest(value=value):
                for position in (0, 1, 19):
                    self.check_position((Row(1),) * position + (value,) * (20 - position), position)
                self.check_position((Row(1), value, Row(1), None), 1)
                self.check_position((value,), 0)


class Reading(Case):

    def test_staircases(self):
        for lists in BATCHES:
            stairs = Batch(*[Row(*numbers) for numbers in lists]).staircase()
            self.assertIs(type(stairs), Staircase)
            for pair in loads_up_to(6) + [(0, 19), (19, 0), (7, 12), (10, 10)]:
                expected = all(is_beyond_no_cut(numbers, pair) for numbers in lists)
                self.assertIs(Load(*pair) in stairs, expected)

    def test_positions(self):
        batch = Batch(*ROWS)
        for position in range(4):
            self.assertIs(batch[position], ROWS[position])
        for value in not_integers() + [4, 5, 20, -1, -4, 10 ** 999, slice(None), slice(0, 2), GivesSignsAMeaning()]:
            with self.subTest(value=value):
                self.check_error(lambda: batch[value], InvalidPlace, value=value)
        self.check_error(lambda: Batch(Row(1))[1], InvalidPlace, value=1)

    def test_in(self):
        batch = Batch(*ROWS)
        for row in (*ROWS, Row(2, 3, 0, 1), Row(1, 0)):
            self.assertIs(row in batch, True)
            self.assertIs(row not in batch, False)
        for value in values_of_every_kind() + [Row(0, 1), Row(1), (1, 0), [1, 0], batch, ROWS]:
            with self.subTest(value=value):
                self.assertIs(value in batch, False)
                self.assertIs(value not in batch, True)

    def test_a_batch_is_not_iterated_over(self):
        for act in (list, tuple, iter, sorted, sum, set, enumerate, max):
            self.assertRaises(TypeError, act, Batch(*ROWS))
        with self.assertRaises(TypeError):
            one, other, *others = Batch(*ROWS)

    def test_equality(self):
        batch = Batch(*ROWS)
        for other, expected in (
            (Batch.of(ROWS), True), (Batch(Row(2, 3, 0, 1), *ROWS[1:]), True), (batch, True),
            (Batch(*ROWS[::-1]), False), (Batch(*ROWS[:3]), False), (Batch(*ROWS, Row(1)), False),
            (Batch(*ROWS[:3], Row(1, 2, 3)), False),
        ):
            self.assertIs(batch == other, expected)
            self.assertIs(batch != other, not expected)
        for value in values_of_every_kind() + [ROWS, list(ROWS), Row(2, 3, 0, 1)]:
            self.assertIs(batch == value, False)
            self.assertIs(batch != value, True)
        self.assertIs(Batch(Row(1)) == Row(1), False)


class Combining(Case):

    def test_sums(self):
        for many in (1, 2, 10, 19):
            for more in (1, 10, 20 - many):
                one, other = Batch.of((Row(1, 0),) * many), Batch.of((Row(2),) * more)
                if many + more <= 20:
                    both = one + other
                    self.assertIs(type(both), Batch)
                    self.assertEqual(both.rows, (Row(1, 0),) * many + (Row(2),) * more)
                else:
                    self.check_error(lambda: one + other, InvalidBatch, position=None)
                self.assertEqual([len(one), len(other)], [many, more])
        self.check_error(lambda: Batch.of((Row(1),) * 20) + Batch(Row(1)), InvalidBatch, position=None)
        self.assertEqual(len(Batch.of((Row(1),) * 19) + Batch(Row(1))), 20)

    def test_after_sweeps_and_loads(self):
        for lists in BATCHES:
            batch = Batch(*[Row(*numbers) for numbers in lists])
            for what, pair in (
                (Forward(1), (1, 0)), (Backward(2), (0, 2)), (Load(1, 3), (1, 3)), (Load(0, 0), (0, 0)),
                (Forward(20), (20, 0)), (Load(1200, 1200), (1200, 1200)),
            ):
                after = batch >> what
                self.assertIs(type(after), Batch)
                self.assertEqual([row.numbers for row in after.rows], [after_load(numbers, *pair) for numbers in lists])
                self.assertEqual(after.staircase(), batch.staircase().shifted(Load(*pair)))
            self.assertEqual([row.numbers for row in batch.rows], lists)

    def test_other_values(self):
        batch = Batch(*ROWS)
        for value in values_of_every_kind() + [ROWS, list(ROWS), Row(1), (Forward(1),), Batch(Row(1))]:
            for act in operators_of():
                is_sum = act is operator.add and isinstance(value, Batch)
                is_after = act is operator.rshift and isinstance(value, (Forward, Backward, Load))
                if not is_sum and not is_after and not isinstance(value, GivesSignsAMeaning):
                    with self.subTest(act=act, value=value):
                        self.assertRaises(TypeError, act, batch, value)
                        # What stands behind % in a string or bytes is for Python to say.
                        is_format = act is operator.mod and isinstance(value, (str, bytes))
                        if not isinstance(value, Batch) and not is_format:
                            self.assertRaises(TypeError, act, value, batch)
        self.assertRaises(TypeError, lambda: batch + GivesSignsAMeaning())
        self.assertRaises(TypeError, lambda: batch >> GivesSignsAMeaning())
        self.assertRaises(TypeError, sum, [batch, batch])
        for act in (operator.neg, operator.pos, operator.invert, abs):
            self.assertRaises(TypeError, act, batch)
        self.assertEqual(batch.rows, ROWS)


class Cores(Case):

    def test_owners(self):
        for lists in BATCHES:
            batch = Batch(*[Row(*numbers) for numbers in lists])
            expected = []
            for corner in batch.staircase().corners():
                own = [at for at, row in enumerate(batch.rows) if corner in Staircase.of_row(row).corners()]
                self.assertTrue(own)
                expected.append(tuple(own))
            self.assertEqual(batch.owners(), tuple(expected))

    def test_cores(self):
        for lists in BATCHES:
            batch = Batch(*[Row(*numbers) for numbers in lists])
            core = batch.core()
            self.assertIs(type(core), tuple)
            self.assertEqual(core, first_core(len(lists), batch.owners()))
            self.assertIs(batch.check_core(core), True)
            if len(lists) <= 6:
                self.assertIn(core, cores(len(lists), batch.owners()))

    def test_a_core_has_the_staircase_together(self):
        for lists in BATCHES:
            batch = Batch(*[Row(*numbers) for numbers in lists])
            rows = [batch[position] for position in batch.core()]
            if rows:
                self.assertEqual(Batch(*rows).staircase(), batch.staircase())
            else:
                self.assertEqual(batch.staircase(), Staircase(Load(0, 0)))
            for place in range(len(rows)):
                others = rows[:place] + rows[place + 1:]
                if others:
                    self.assertNotEqual(Batch(*others).staircase(), batch.staircase())

    def test_all_sets_of_positions(self):
        accepted = 0
        for lists in BATCHES:
            many = len(lists)
            if many > 7:
                continue
            batch = Batch(*[Row(*numbers) for numbers in lists])
            right = cores(many, batch.owners())
            for size in range(many + 1):
                for positions in combinations(range(many), size):
                    self.assertIs(batch.check_core(value=positions), positions in right)
                    self.assertIs(batch.check_core(list(positions)), False)
                    if size > 1:
                        self.assertIs(batch.check_core(positions[::-1]), False)
                        self.assertIs(batch.check_core(positions + positions[-1:]), False)
            accepted += len(right)
        self.assertGreater(accepted, len(BATCHES))

    def test_ordinary_cores(self):
        batch = Batch(*ROWS)
        self.assertEqual([batch.owners(), batch.core()], [((0,),), (0,)])
        self.assertEqual([Batch(Row(1, 2), Row(5)).owners(), Batch(Row(1, 2), Row(5)).core()], [(), ()])
        batch = Batch(Row(1, 0), Row(2, 0, 1), Row(1, 0))
        self.assertEqual([batch.owners(), batch.core()], [((1,),), (1,)])
        same = Batch(Row(1, 0), Row(1, 0), Row(1, 0))
        self.assertEqual([same.owners(), same.core()], [((0, 1, 2),), (0,)])
        for position in range(3):
            self.assertIs(same.check_core((position,)), True)
        self.assertIs(same.check_core((0, 1)), False)
        self.assertIs(same.check_core(()), False)

    def test_wrong_values(self):
        same = Batch(Row(1, 0), Row(1, 0))
        empty = Batch(Row(1), Row(2))
        for value in values_of_every_kind():
            self.assertIs(empty.check_core(value), type(value) is tuple and value == ())
            self.assertIs(same.check_core(value), type(value) is tuple and value == (1,))
            if type(value) is not int:
                self.assertIs(same.check_core((value,)), False)
                self.assertIs(same.check_core((0, value)), False)
        for value in ((2,), (-1,), (-2,), (10 ** 999,), (0, 0), (1, 0), ((0,),), ("0",)):
            self.assertIs(same.check_core(value), False)


class StandIns(Case):

    def test_stand_ins(self):
        for lists in BATCHES:
            batch = Batch(*[Row(*numbers) for numbers in lists])
            row = batch.stand_in()
            self.assertIs(type(row), Row)
            self.assertEqual(sorted(row.numbers), list(range(max(map(len, lists)))))
            self.assertEqual(Staircase.of_row(row), batch.staircase())

    def test_all_loads(self):
        for lists in BATCHES[:15]:
            batch = Batch(*[Row(*numbers) for numbers in lists])
            row = batch.stand_in()
            for pair in loads_up_to(len(row)):
                expected = all(is_ascending(after_load(numbers, *pair)) for numbers in lists)
                self.assertIs((row >> Load(*pair)).is_in_order, expected)
