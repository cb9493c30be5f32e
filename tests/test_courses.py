"""Module handsweeps.courses."""

from handsweeps.courses import Course
from handsweeps.errors import InvalidLoad, InvalidSweep, LimitExceeded, NothingToUndo, OverBudget
from handsweeps.loads import Load
from handsweeps.rows import Row
from handsweeps.staircases import Staircase
from handsweeps.sweeps import Backward, Forward, Sweep
from handsweeps.words import load_of, rows_after
from tests.cases import Case
from tests.samples import GivesSignsAMeaning, mixed_rows, mixed_word, values_of_every_kind

ROW = Row(5, 3, 4, 1, 0, 2)
WORD = (Forward(1), Backward(2), Forward(1), Backward(1))


def state(course):
    """All that a course tells of itself."""
    return course.now, course.word, course.total, course.left, len(course), list(course.history())


def course_with(word, row=ROW, budget=None):
    course = Course(row, budget=budget)
    for sweep in word:
        course.do(sweep)
    return course


class Creating(Case):

    def test_at_the_beginning(self):
        for course in (Course(ROW), Course(row=ROW), Course(ROW, budget=None), Course(ROW, budget=Load(0, 0))):
            self.assertIs(course.now, ROW)
            self.assertEqual([course.word, course.total, len(course)], [(), Load(0, 0), 0])
            self.assertEqual(course.left, Staircase.of_row(ROW))
            self.assertEqual(list(course.history()), [ROW])

    def test_wrong_budgets(self):
        for value in values_of_every_kind() + [(1, 1), [1, 1], Row(1, 1), Load, False, 0]:
            if value is not None and not isinstance(value, Load):
                with self.subTest(value=value):
                    self.check_error(lambda: Course(ROW, budget=value), InvalidLoad, value=value)

    def test_the_budget_is_given_by_name(self):
        self.assertRaises(TypeError, Course, ROW, Load(1, 1))
        self.assertRaises(TypeError, Course)

    def test_equal_to_itself_only(self):
        one, other = Course(ROW), Course(ROW)
        self.assertTrue(one == one)
        self.assertFalse(one != one)
        self.assertFalse(one == other)
        self.assertTrue(one != other)
        self.assertFalse(one == 1)


class Doing(Case):

    def test_one_after_the_other(self):
        for numbers in mixed_rows(40):
            row = Row(*numbers)
            word = mixed_word(7, 9, 4)
            rows = list(rows_after(row, word))
            course = Course(row)
            for done, sweep in enumerate(word, 1):
                after = course.do(sweep)
                self.assertIs(type(after), Row)
                self.assertEqual(after, rows[done - 1])
                self.assertEqual(course.now, after)
                self.assertEqual(course.word, word[:done])
                self.assertIs(type(course.word), tuple)
                self.assertEqual(course.total, load_of(word[:done]))
                self.assertEqual(course.left, Staircase.of_row(after))
                self.assertEqual(course.left, Staircase.of_row(row).shifted(course.total))
                self.assertEqual(len(course), done)
                self.assertEqual(list(course.history()), [row, *rows[:done]])
            self.assertEqual(row.numbers, numbers)

    def test_by_name(self):
        self.assertEqual(Course(ROW).do(sweep=Forward(1)), ROW >> Forward(1))

    def test_no_sweeps(self):
        course = course_with(WORD, budget=Load(2, 3))
        before = state(course)
        for value in values_of_every_kind() + [Sweep, Forward, "f", (Forward(1),), [Forward(1)], Load(1, 0), WORD]:
            if not isinstance(value, Sweep):
                with self.subTest(value=value):
                    self.check_error(lambda: course.do(value), InvalidSweep, value=value)
                    self.assertEqual(state(course), before)

    def test_two_courses(self):
        one, other = Course(ROW), Course(ROW)
        one.do(Forward(1))
        self.assertEqual([len(one), len(other), other.now], [1, 0, ROW])
        other.do(Backward(2))
        self.assertEqual([one.word, other.word], [(Forward(1),), (Backward(2),)])

    def test_fields_cannot_be_set(self):
        for name in ("now", "word", "total", "left"):
            self.assertRaises(AttributeError, setattr, Course(ROW), name, None)


class Undoing(Case):

    def test_all_sweeps(self):
        word = mixed_word(9, 8, 3)
        course = course_with(word)
        for left in range(len(word) - 1, -1, -1):
            self.assertIs(course.undo(), word[left])
            self.assertEqual(state(course), state(course_with(word[:left])))
        self.check_error(course.undo, NothingToUndo)
        self.assertEqual(state(course), state(Course(ROW)))

    def test_nothing_to_undo(self):
        course = Course(ROW, budget=Load(1, 0))
        for _ in range(2):
            self.check_error(course.undo, NothingToUndo)
            self.assertEqual(state(course), state(Course(ROW)))
        course.do(Forward(1))
        self.assertEqual(course.undo(), Forward(1))
        self.check_error(course.undo, NothingToUndo)

    def test_other_sweeps_after_undoing(self):
        course = course_with(WORD)
        course.undo()
        course.undo()
        course.do(Forward(3))
        self.assertEqual(state(course), state(course_with((*WORD[:2], Forward(3)))))


class Budgets(Case):

    def test_all_budgets(self):
        for forward in range(4):
            for backward in range(4):
                course = Course(ROW, budget=Load(forward, backward))
                for sweep, load in ((Forward(forward + 1), (forward + 1, 0)), (Backward(backward + 1), (0, backward + 1))):
                    self.check_error(lambda: course.do(sweep), OverBudget, load=Load(*load))
                    self.assertEqual(state(course), state(Course(ROW)))
                word = (Forward(1),) * forward + (Backward(1),) * backward
                for sweep in word:
                    course.do(sweep)
                self.check_error(lambda: course.do(Forward(2)), OverBudget, load=Load(forward + 2, backward))
                self.check_error(lambda: course.do(Backward(3)), OverBudget, load=Load(forward, backward + 3))
                self.assertEqual(state(course), state(course_with(word)))

    def test_a_budget_of_nothing(self):
        course = Course(ROW, budget=Load(0, 0))
        self.check_error(lambda: course.do(Forward(1)), OverBudget, load=Load(1, 0))
        self.check_error(lambda: course.do(Backward(20)), OverBudget, load=Load(0, 20))
        self.check_error(course.undo, NothingToUndo)
        self.assertEqual(state(course), state(Course(ROW)))

    def test_used_up_undone_and_used_up_again(self):
        course = Course(ROW, budget=Load(3, 2))
        for _ in range(3):
            for sweep in (Forward(2), Backward(2), Forward(1)):
                course.do(sweep)
            self.check_error(lambda: course.do(Forward(1)), OverBudget, load=Load(4, 2))
            course.undo()
            self.check_error(lambda: course.do(Backward(1)), OverBudget, load=Load(2, 3))
            course.do(Forward(1))
            self.check_error(lambda: course.do(Backward(1)), OverBudget, load=Load(3, 3))
            for _ in range(3):
                course.undo()
        self.assertEqual(state(course), state(Course(ROW)))

    def test_the_budget_stays(self):
        budget = Load(3, 2)
        course = Course(ROW, budget=budget)
        course.do(Forward(3))
        self.assertEqual([budget.forward, budget.backward], [3, 2])


class Limits(Case):

    def test_forward_and_backward(self):
        for kind, total in ((Forward, Load(1200, 0)), (Backward, Load(0, 1200))):
            for size in (20, 1):
                course = course_with((kind(size),) * (1200 // size))
                self.assertEqual([course.total, len(course)], [total, 1200 // size])
                before = state(course)
                for more in (1, 20):
                    self.check_error(lambda: course.do(kind(more)), LimitExceeded, limit=1200)
                    self.assertEqual(state(course), before)
                other = Backward if kind is Forward else Forward
                course.do(other(1))
                self.assertEqual(course.total, total | load_of((other(1),)))

    def test_both(self):
        course = course_with((Forward(20), Backward(20)) * 60)
        self.assertEqual(course.total, Load(1200, 1200))
        for sweep in (Forward(1), Backward(1)):
            self.check_error(lambda: course.do(sweep), LimitExceeded, limit=1200)
        course.undo()
        self.check_error(lambda: course.do(Forward(1)), LimitExceeded, limit=1200)
        course.do(Backward(19))
        course.do(Backward(1))
        self.assertEqual(course.total, Load(1200, 1200))

    def test_the_order_of_the_errors(self):
        course = course_with((Forward(20),) * 60, budget=Load(1200, 0))
        self.check_error(lambda: course.do(None), InvalidSweep, value=None)
        self.check_error(lambda: course.do(Forward(1)), LimitExceeded, limit=1200)
        self.check_error(lambda: course.do(Backward(1)), OverBudget, load=Load(1200, 1))
        self.assertEqual(course.total, Load(1200, 0))


class History(Case):

    def test_two_walks_at_once(self):
        course = course_with(WORD[:2])
        rows = [ROW, *rows_after(ROW, WORD[:2])]
        one, other = course.history(), course.history()
        walked = [next(walk) for walk in (one, other, other, one, one, other)]
        self.assertEqual(walked, [rows[place] for place in (0, 0, 1, 1, 2, 2)])
        self.assertEqual([list(one), list(other)], [[], []])
        self.assertEqual([len(list(course.history())) for _ in course.history()], [3, 3, 3])

    def test_lists_can_be_changed(self):
        course = course_with(WORD)
        rows = list(course.history())
        rows.clear()
        self.assertEqual(len(list(course.history())), 5)


class Attempts(Case):

    def test_what_the_function_returns(self):
        course = course_with(WORD)
        for value in values_of_every_kind():
            self.assertIs(course.attempt(lambda seen: value), value)
        self.assertIs(course.attempt(lambda seen: seen), course)
        self.assertIs(course.attempt(function=lambda seen: seen), course)

    def check_attempt(self, act, *, word=WORD, budget=None):
        """Attempt something, look at the course, and return what the attempt returned."""
        course = course_with(word, budget=budget)
        before = state(course)
        found = course.attempt(act)
        self.assertEqual(state(course), before)
        self.assertEqual(course.do(Forward(1)), before[0] >> Forward(1))
        course.undo()
        for sweep in word[::-1]:
            self.assertIs(course.undo(), sweep)
        return found

    def test_doing(self):
        def act(course):
            course.do(Forward(2))
            course.do(Backward(1))
            return course.word, course.total, len(course), course.now

        found = self.check_attempt(act)
        word = (*WORD, Forward(2), Backward(1))
        self.assertEqual(found, (word, load_of(word), 6, list(rows_after(ROW, word))[-1]))

    def test_undoing_sweeps_from_before(self):
        def act(course):
            taken = [course.undo() for _ in WORD]
            self.check_error(course.undo, NothingToUndo)
            course.do(Backward(7))
            return taken, course.word

        self.assertEqual(self.check_attempt(act), (list(WORD[::-1]), (Backward(7),)))

    def test_the_budget_counts(self):
        def act(course):
            self.check_error(lambda: course.do(Backward(1)), OverBudget, load=Load(2, 4))
            course.undo()
            course.do(Backward(1))
            course.do(Forward(1))
            return course.total

        self.assertEqual(self.check_attempt(act, budget=Load(3, 3)), Load(3, 3))

    def test_attempts_in_attempts(self):
        def inner(course):
            course.undo()
            course.undo()
            course.do(Forward(5))
            return course.word

        def act(course):
            course.do(Backward(3))
            before = state(course)
            words = [course.attempt(inner), course.attempt(inner)]
            self.assertEqual(state(course), before)
            course.undo()
            return words, course.word

        expected = (*WORD[:3], Forward(5))
        self.assertEqual(self.check_attempt(act), ([expected, expected], WORD))

    def test_exceptions_go_on(self):
        class Own(Exception):
            pass

        for error in (Own("x"), KeyError(1), StopIteration(), KeyboardInterrupt(), GeneratorExit(), InvalidSweep(1)):
            def act(course):
                course.undo()
                course.do(Forward(3))
                course.do(Forward(3))
                raise error

            course = course_with(WORD)
            before = state(course)
            with self.assertRaises(type(error)) as caught:
                course.attempt(act)
            self.assertIs(caught.exception, error)
            self.assertEqual(state(course), before)

    def test_errors_of_the_package(self):
        def act(course):
            course.do(Forward(1))
            course.do(Backward(9))

        for budget, wrong, error, fields in (
            (Load(9, 9), Backward(20), OverBudget, {"load": Load(3, 23)}),
            (None, 5, InvalidSweep, {"value": 5}),
        ):
            course = course_with(WORD, budget=budget)
            before = state(course)
            self.check_error(lambda: course.attempt(lambda seen: (seen.do(Forward(1)), seen.do(wrong))), error, **fields)
            self.assertEqual(state(course), before)
        course = course_with(WORD, budget=Load(3, 5))
        self.check_error(lambda: course.attempt(act), OverBudget, load=Load(3, 12))
        self.assertEqual(state(course), state(course_with(WORD)))

    def test_attempts_that_raise_in_attempts(self):
        def inner(course):
            course.undo()
            raise KeyError(course.word)

        def act(course):
            course.do(Forward(2))
            with self.assertRaises(KeyError) as caught:
                course.attempt(inner)
            return caught.exception.args, course.word

        self.assertEqual(self.check_attempt(act), ((WORD,), (*WORD, Forward(2))))

    def test_walks_through_the_history(self):
        course = course_with(WORD[:1])
        walk = course.history()
        first = next(walk)
        rows = course.attempt(lambda seen: (seen.do(Backward(2)), list(seen.history()))[1])
        self.assertEqual(rows, [ROW, *rows_after(ROW, WORD[:2])])
        self.assertEqual([first, *walk], [ROW, ROW >> Forward(1)])

    def test_what_cannot_be_called(self):
        course = course_with(WORD)
        before = state(course)
        self.assertRaises(TypeError, course.attempt, GivesSignsAMeaning())
        self.assertRaises(TypeError, course.attempt, lambda: 1)
        self.assertEqual(state(course), before)
