"""The class Log of module handsweeps.logs, what it keeps: points [60] and [61]."""

from handsweeps.borders import stairs_of
from handsweeps.errors import Broken, InvalidAnswer, InvalidCount, InvalidLoad, LimitExceeded, NothingToUndo, OtherCount
from handsweeps.loads import Load
from handsweeps.logs import Log
from handsweeps.staircases import Staircase
from tests.cases import Case
from tests.samples import (
    GivesSignsAMeaning, chance_answers, loads_up_to, log_with, not_integers, operators_of, pairs_of, small_logs,
    state_of, values_of_every_kind,
)


def not_loads():
    values = values_of_every_kind() + [(1, 1), [1, 1], Load, Log(3)]
    return [value for value in values if not isinstance(value, Load)]


def not_answers():
    values = values_of_every_kind() + [0, 1, "True", bool, (True,), [False], Log(3)]
    return [value for value in values if type(value) is not bool]


def answers_of(log):
    """The answers as pairs of a load's numbers and True or False."""
    return [((load.forward, load.backward), answer) for load, answer in log.answers]


def facts(log):
    """All that a log tells of what it keeps."""
    return log.many, log.answers, log.sure, log.possible, log.is_settled, len(log)


def full_log(many, settled=False):
    """A log with 400 answers."""
    log = Log(many)
    for _ in range(400):
        log.tell(Load(0, many - 2) if settled else Load(many, 0), True)
    return log


class Creating(Case):

    def test_all_counts(self):
        self.assertEqual([Log.MOST, Log(2).MOST], [400, 400])
        for many in range(1, 21):
            for log in (Log(many), Log(many=many)):
                self.assertEqual([log.many, log.answers, len(log)], [many, (), 0])
                self.assertEqual(pairs_of(log.sure.least()), [(a, many - 1 - a) for a in range(many)])
                self.assertEqual(pairs_of(log.possible.least()), [(0, 0)])
                self.assertIs(log.is_settled, many == 1)

    def test_wrong_counts(self):
        for value in not_integers() + [0, 21, 22, -1, 10 ** 999, -10 ** 999, GivesSignsAMeaning()]:
            with self.subTest(value=value):
                self.check_error(lambda: Log(value), InvalidCount, value=value)

    def test_fields_cannot_be_set(self):
        for name in ("many", "answers", "sure", "possible", "is_settled"):
            self.assertRaises(AttributeError, setattr, Log(3), name, None)


class Telling(Case):

    def check_log(self, log, many, answers):
        self.assertIs(type(log.answers), tuple)
        self.assertEqual(answers_of(log), list(answers))
        self.assertEqual({type(pair) for pair in log.answers} | {tuple}, {tuple})
        self.assertEqual([log.many, len(log)], [many, len(answers)])
        self.assertEqual([type(log.sure), type(log.possible)], [Staircase, Staircase])
        states = [state_of(many, answers, pair) for pair in loads_up_to(many + 1)]
        loads = [Load(*pair) for pair in loads_up_to(many + 1)]
        self.assertEqual([load in log.sure for load in loads], [state == "sure" for state in states])
        self.assertEqual([load in log.possible for load in loads], [state != "hopeless" for state in states])
        self.assertEqual([log.state(load) for load in loads], states)
        self.assertIs(log.is_settled, "open" not in states)

    def test_small_logs(self):
        for many, answers in small_logs():
            log = Log(many)
            for done in range(len(answers)):
                self.check_log(log, many, answers[:done])
                pair, answer = answers[done]
                self.assertIsNone(log.tell(answer=answer, load=Load(*pair)))
            self.check_log(log, many, answers)

    def test_long_rows(self):
        for many in (8, 13, 20):
            for seed in range(3):
                answers = chance_answers(many, 30, seed)
                self.check_log(log_with(many, answers), many, answers)

    def test_the_very_loads(self):
        log = Log(4)
        loads = [Load(0, 1), Load(1, 0), Load(0, 1), Load(1200, 1200)]
        for load, answer in zip(loads, (False, True, False, True)):
            log.tell(load, answer)
        self.assertEqual([told is load for (told, _), load in zip(log.answers, loads)], [True] * 4)
        self.assertEqual(pairs_of(loads), [(0, 1), (1, 0), (0, 1), (1200, 1200)])

    def test_great_loads_are_sure(self):
        for many in (1, 2, 20):
            log = Log(many)
            for pair in ((1200, 0), (0, 1200), (1200, 1200), (many, 0), (0, many), (many - 1, 0), (0, many - 1)):
                self.assertEqual(log.state(Load(*pair)), "sure")
                log.tell(Load(*pair), True)
                self.check_error(lambda: log.tell(Load(*pair), False), Broken, load=Load(*pair))
            self.assertEqual([log.sure, log.possible], [Log(many).sure, Log(many).possible])

    def test_staircases_that_were_told_stay(self):
        log = Log(4)
        sure, possible, answers = log.sure, log.possible, log.answers
        log.tell(Load(0, 1), True)
        self.assertEqual([sure, possible, answers], [Log(4).sure, Log(4).possible, ()])


class WrongAnswers(Case):

    def test_wrong_loads(self):
        for log in (Log(3), log_with(3, [((0, 1), False)]), full_log(3)):
            before = facts(log)
            for value in not_loads():
                for answer in (True, False, None, 1):
                    with self.subTest(value=value, answer=answer):
                        self.check_error(lambda: log.tell(value, answer), InvalidLoad, value=value)
                        self.assertEqual(facts(log), before)
            for value in not_loads():
                for act in (log.state, log.ask, log.parts, log.after, lambda told: log.check(told, ("sure", None))):
                    self.check_error(lambda: act(value), InvalidLoad, value=value)

    def test_values_that_are_no_answers(self):
        for log in (Log(3), log_with(3, [((0, 1), False)]), full_log(3)):
            before = facts(log)
            for value in not_answers():
                for pair in ((0, 0), (1, 0), (5, 5)):
                    with self.subTest(value=value):
                        self.check_error(lambda: log.tell(Load(*pair), value), InvalidAnswer, value=value)
                        self.assertEqual(facts(log), before)

    def test_answers_that_contradict_others(self):
        for many, answers in small_logs():
            log = log_with(many, answers)
            before = facts(log)
            for pair in loads_up_to(many):
                state = state_of(many, answers, pair)
                for answer in (True, False):
                    if state == ("hopeless" if answer else "sure"):
                        self.check_error(lambda: log.tell(Load(*pair), answer), Broken, load=Load(*pair))
                        self.assertEqual(facts(log), before)
                    else:
                        log.tell(Load(*pair), answer)
                        log.undo()
                        self.assertEqual(facts(log), before)

    def test_400_answers(self):
        for log in (full_log(5), full_log(5, settled=True)):
            before = facts(log)
            self.assertEqual(len(log), 400)
            for pair, answer in (((5, 0), True), ((0, 3), True), ((1200, 1200), True)):
                self.check_error(lambda: log.tell(Load(*pair), answer), LimitExceeded, limit=400)
            self.check_error(lambda: log.tell(Load(4, 0), False), Broken, load=Load(4, 0))
            self.check_error(lambda: log.tell(Load(4, 0), 0), InvalidAnswer, value=0)
            self.check_error(lambda: log.tell(None, 0), InvalidLoad, value=None)
            self.assertEqual(facts(log), before)
            log.undo()
            log.tell(Load(7, 7), True)
            self.check_error(lambda: log.tell(Load(7, 7), True), LimitExceeded, limit=400)
            self.assertEqual(log.answers[-1], (Load(7, 7), True))


class Undoing(Case):

    def test_all_answers(self):
        for many, answers in small_logs():
            log = log_with(many, answers)
            for left in range(len(answers) - 1, -1, -1):
                self.assertIsNone(log.undo())
                self.assertEqual(facts(log), facts(log_with(many, answers[:left])))
            self.check_error(log.undo, NothingToUndo)
            self.assertEqual(facts(log), facts(Log(many)))

    def test_nothing_to_undo(self):
        log = Log(3)
        for _ in range(2):
            self.check_error(log.undo, NothingToUndo)
        log.tell(Load(0, 1), True)
        log.undo()
        self.check_error(log.undo, NothingToUndo)

    def test_a_known_answer_told_twice(self):
        log = log_with(4, [((1, 0), False), ((1, 0), False)])
        log.undo()
        self.assertEqual(log.state(Load(1, 0)), "hopeless")
        log.undo()
        self.assertEqual(log.state(Load(1, 0)), "open")


class Copies(Case):

    def test_copies(self):
        for many, answers in small_logs():
            log = log_with(many, answers)
            copied = log.copy()
            self.assertIs(type(copied), Log)
            self.assertIsNot(copied, log)
            self.assertEqual(facts(copied), facts(log))
            self.assertTrue(copied == log)

    def test_later_changes(self):
        log = log_with(4, [((0, 1), False)])
        copied = log.copy()
        log.tell(Load(1, 0), True)
        self.assertEqual([len(log), len(copied), copied.state(Load(1, 0))], [2, 1, "open"])
        copied.undo()
        self.assertEqual([len(log), len(copied), log.state(Load(0, 1))], [2, 0, "hopeless"])
        copied.tell(Load(0, 1), True)
        self.assertEqual([log.state(Load(0, 1)), copied.state(Load(0, 1))], ["hopeless", "sure"])


class Equality(Case):

    def test_logs(self):
        some = small_logs()[::5]
        for one in some:
            for other in some:
                expected = one == other
                self.assertIs(log_with(*one) == log_with(*other), expected)
                self.assertIs(log_with(*one) != log_with(*other), not expected)

    def test_the_answers_count_and_not_what_they_tell(self):
        one = log_with(4, [((0, 1), False), ((2, 0), True)])
        for many, answers in (
            (4, [((2, 0), True), ((0, 1), False)]), (4, [((0, 1), False)]), (5, [((0, 1), False), ((2, 0), True)]),
            (4, [((0, 1), False), ((2, 0), True), ((2, 0), True)]), (4, [((0, 1), False), ((2, 0), False)]),
        ):
            self.assertIs(one == log_with(many, answers), False)
            self.assertIs(one != log_with(many, answers), True)
        self.assertIs(Log(3) == Log(4), False)

    def test_other_values(self):
        log = log_with(3, [((0, 1), False)])
        for value in values_of_every_kind() + [log.answers, (3, log.answers), 3, stairs_of((0, 0, 0))]:
            with self.subTest(value=value):
                self.assertIs(log == value, False)
                self.assertIs(log != value, True)
                if not isinstance(value, GivesSignsAMeaning):
                    for act in operators_of():
                        self.assertRaises(TypeError, act, log, value)


class Joining(Case):

    def test_logs_that_go_together(self):
        for many, answers in small_logs():
            for end in (0, 1, len(answers) // 2, len(answers)):
                one, other = log_with(many, answers[:end]), log_with(many, answers[end:])
                before = facts(one), facts(other)
                both = one.joined(other)
                self.assertIs(type(both), Log)
                self.assertEqual(facts(both), facts(log_with(many, answers)))
                self.assertEqual((facts(one), facts(other)), before)
                both.tell(Load(many, many), True)
                self.assertEqual((facts(one), facts(other)), before)
        log = log_with(3, [((0, 1), False)])
        self.assertEqual(answers_of(log.joined(other=log)), [((0, 1), False)] * 2)

    def test_other_counts(self):
        for one in range(1, 21):
            for other in {1, 2, one - 1, one + 1, 20} - {0, one, 21}:
                self.check_error(lambda: Log(one).joined(Log(other)), OtherCount)
        self.check_error(lambda: full_log(4).joined(log_with(5, [((0, 1), False)])), OtherCount)

    def test_contradictions(self):
        for many, answers in small_logs():
            for other_answers in [tuple(chance_answers(many, 4, seed)) for seed in range(40, 46)]:
                known = list(answers)
                wrong = None
                for pair, answer in other_answers:
                    if wrong is None and state_of(many, known, pair) == ("hopeless" if answer else "sure"):
                        wrong = pair
                    known.append((pair, answer))
                one, other = log_with(many, answers), log_with(many, other_answers)
                before = facts(one), facts(other)
                if wrong is None:
                    self.assertEqual(answers_of(one.joined(other)), known)
                else:
                    self.check_error(lambda: one.joined(other), Broken, load=Load(*wrong))
                self.assertEqual((facts(one), facts(other)), before)

    def test_the_first_contradiction(self):
        one = log_with(5, [((1, 1), True)])
        other = log_with(5, [((3, 0), True), ((1, 1), False), ((1, 2), False)])
        self.check_error(lambda: one.joined(other), Broken, load=Load(1, 1))
        self.check_error(lambda: other.joined(one), Broken, load=Load(1, 1))

    def test_400_answers(self):
        full = full_log(5)
        almost = full.copy()
        almost.undo()
        one = log_with(5, [((0, 1), False)])
        self.assertEqual([len(almost.joined(one)), len(one.joined(almost)), len(full.joined(Log(5)))], [400] * 3)
        for act in (
            lambda: full.joined(one), lambda: one.joined(full), lambda: full.joined(full),
            lambda: almost.joined(log_with(5, [((0, 1), False)] * 2)),
        ):
            self.check_error(act, LimitExceeded, limit=400)
        self.assertEqual([len(full), len(one)], [400, 1])

    def test_contradictions_come_ahead_of_the_limit(self):
        full = full_log(5)
        full.undo()
        full.tell(Load(0, 1), False)
        self.check_error(lambda: full.joined(log_with(5, [((2, 0), False), ((0, 1), True)])), Broken, load=Load(0, 1))
