"""What holds over the whole program: points [0], [3] and [4]."""

import operator
import subprocess
import sys
from pathlib import Path

from handsweeps.batches import Batch
from handsweeps.courses import Course
from handsweeps.cuts import Cut
from handsweeps.hands import Hand
from handsweeps.loads import Load
from handsweeps.logs import Asker, Log
from handsweeps.plans import Planner
from handsweeps.prices import Prices
from handsweeps.rows import Row
from handsweeps.staircases import Staircase
from handsweeps.sweeps import Backward, Forward
from tests.cases import Case
from tests.samples import GivesSignsAMeaning, operators_of, values_of_every_kind

WITH_EQUALITY = (
    lambda: Forward(2), lambda: Backward(2), lambda: Row(2, 0, 1), lambda: Load(1, 2), lambda: Cut(1, 2),
    lambda: Staircase(Load(0, 1), Load(2, 0)), lambda: Prices({1: 2}, {3: 4}), lambda: Batch(Row(1, 0), Row(2)),
    lambda: Log(3),
)
WITHOUT_EQUALITY = (
    lambda: Hand(2), lambda: Course(Row(2, 0, 1)), lambda: Asker(3), lambda: Planner(Prices({1: 2}, {}), 3),
)
ALL = WITH_EQUALITY + WITHOUT_EQUALITY

# Which operators are described for two objects, by their classes.
DESCRIBED = {
    (Row, operator.add, Row), (Load, operator.add, Load), (Load, operator.and_, Load), (Load, operator.or_, Load),
    (Staircase, operator.and_, Staircase), (Staircase, operator.or_, Staircase), (Batch, operator.add, Batch),
}
DESCRIBED |= {(one, operator.rshift, other) for one in (Row, Batch) for other in (Forward, Backward, Load)}
SIGNS = {(Row, operator.neg), (Load, operator.neg), (Staircase, operator.neg)}


class Signs(Case):

    def test_two_objects(self):
        for make in ALL:
            for make_other in ALL:
                one, other = make(), make_other()
                for act in operators_of():
                    with self.subTest(one=one, other=other, act=act):
                        if (type(one), act, type(other)) in DESCRIBED:
                            self.assertIs(type(act(one, other)), type(one))
                        else:
                            self.assertRaises(TypeError, act, one, other)

    def test_one_object(self):
        for make in ALL:
            one = make()
            for act in (operator.neg, operator.pos, operator.invert, abs):
                if (type(one), act) in SIGNS:
                    self.assertIs(type(act(one)), type(one))
                else:
                    self.assertRaises(TypeError, act, one)

    def test_values_of_every_kind(self):
        own = tuple(type(make()) for make in ALL)
        for make in ALL:
            for value in values_of_every_kind():
                if isinstance(value, own + (GivesSignsAMeaning,)):
                    continue
                for act in operators_of():
                    one = make()
                    with self.subTest(one=one, value=value, act=act):
                        is_product = type(one) is Load and act is operator.mul and type(value) is int and value >= 0
                        if not is_product:
                            self.assertRaises(TypeError, act, one, value)


class Equality(Case):

    def test_with_described_equality(self):
        for place, make in enumerate(WITH_EQUALITY):
            one = make()
            for other_place, make_other in enumerate(ALL):
                other = make_other()
                self.assertIs(one == other, place == other_place)
                self.assertIs(one != other, place != other_place)
            for value in values_of_every_kind():
                if not isinstance(value, type(one)):
                    self.assertIs(one == value, False)
                    self.assertIs(one != value, True)

    def test_equal_to_themselves_only(self):
        for make in WITHOUT_EQUALITY:
            one, same = make(), make()
            self.assertIs(one == one, True)
            self.assertIs(one != one, False)
            for other in [same, *[make_other() for make_other in ALL]]:
                self.assertIs(one == other, False)
                self.assertIs(one != other, True)


class Items(Case):

    def test_in_does_not_raise(self):
        for make in (lambda: Row(2, 0, 1), lambda: Staircase(Load(0, 3), Load(3, 0)), lambda: Batch(Row(3, 0), Row(2))):
            one = make()
            for value in values_of_every_kind() + [make_other() for make_other in ALL] + [one]:
                self.assertIs(value in one, isinstance(one, Row) and type(value) is int and 0 <= value <= 1)

    def test_objects_with_items_are_not_iterated_over(self):
        for one in (Row(2, 0, 1), Batch(Row(1, 0), Row(2))):
            for act in (list, tuple, sorted, set, iter, max, lambda items: [*items], lambda items: dict(items)):
                self.assertRaises(TypeError, act, one)


class NothingOutside(Case):

    def test_no_module_but_those_of_the_package_and_itertools(self):
        top = Path(__file__).parent.parent
        names = [f"handsweeps.{path.stem}" for path in sorted((top / "handsweeps").glob("*.py"))]
        code = (
            f"import sys; import itertools; before = set(sys.modules); import {', '.join(names)}\n"
            "sys.exit(len({name for name in sys.modules if name.split('.')[0] != 'handsweeps'} - before))"
        )
        done = subprocess.run([sys.executable, "-B", "-c", code], cwd=top, check=False)
        self.assertEqual(done.returncode, 0)
