"""The class Log of module handsweeps.logs, what it tells: points [60] to [67]."""

from itertools import combinations, permutations

from handsweeps.batches import Batch
from handsweeps.borders import profile, stairs_of
from handsweeps.errors import Broken, InvalidCount, InvalidRank, NotOfCount, OtherCount, WrongRow
from handsweeps.loads import Load
from handsweeps.logs import Log
from handsweeps.rows import Row
from handsweeps.staircases import Staircase
from tests.cases import Case
from tests.samples import (
    GivesSignsAMeaning, chance_answers, chance_profiles, covers, going_with, has_load, loads_up_to, log_with,
    mixed_rows, not_integers, pairs_of, profiles, small_logs, small_rows, stairs_with, state_of, values_of_every_kind,
)


def answers_of(log):
    return [((load.forward, load.backward), answer) for load, answer in log.answers]


def profile_of(row):
    return profile(len(row), Staircase.of_row(row))


def states_of(many, answers):
    return [state_of(many, answers, pair) for pair in loads_up_to(many)]


def open_pairs(many, answers):
    """The open loads, in order ([60])."""
    return [pair for pair in loads_up_to(many) if state_of(many, answers, pair) == "open"]


def core_of(many, answers):
    """The positions of the answers of the core ([66])."""
    expected = states_of(many, answers)
    left = list(range(len(answers)))
    for position in reversed(range(len(answers))):
        others = [other for other in left if other != position]
        if states_of(many, [answers[other] for other in others]) == expected:
            left = others
    return tuple(left)


def between(one, other):
    """The answers of the log of two profiles, the possible one and the sure one ([65])."""
    many = len(one)
    possible, sure = stairs_with(one), stairs_with(other)
    yes = [(pair, True) for pair in pairs_of(sure.least()) if sum(pair) < many - 1]
    return yes + [((p - 1, q - 1), False) for p, q in possible.corners()]


def pairs_of_profiles(many):
    """All pairs of a possible and a sure profile."""
    found = profiles(many)
    return [(one, other) for one in found for other in found if all(a <= b for a, b in zip(one, other))]


class Asking(Case):

    def check_ask(self, many, answers, pair):
        log = log_with(many, answers)
        load = Load(*pair)
        value = log.ask(load)
        state = state_of(many, answers, pair)
        self.assertIs(type(value), tuple)
        self.assertEqual([value[0], len(value)], [state, 3 if state == "open" else 2])
        self.assertEqual(log.state(load), state)
        if state == "open":
            self.assertEqual([type(row) for row in value[1:]], [Row, Row])
            for row, answer in zip(value[1:], (True, False)):
                self.assertIn(profile_of(row), going_with(many, answers))
                self.assertIs((row >> load).is_in_order, answer)
        elif value[1] is None:
            self.assertGreaterEqual(sum(pair), many - 1)
            self.assertEqual(state, "sure")
        else:
            other = (value[1].forward, value[1].backward)
            self.assertIn((other, state == "sure"), answers)
            self.assertTrue(covers(pair, other) if state == "sure" else covers(other, pair))
        self.assertIs(log.check(load, value), True)
        self.assertEqual(answers_of(log), list(answers))

    def test_small_logs(self):
        for many, answers in small_logs():
            for pair in loads_up_to(many) + [(1200, 0), (0, 1200)]:
                self.check_ask(many, answers, pair)

    def test_long_rows(self):
        for seed in range(4):
            answers = chance_answers(20, 25, seed)
            log = log_with(20, answers)
            for pair in [(a, b) for a in range(0, 20, 3) for b in range(0, 20, 3)]:
                load = Load(*pair)
                value = log.ask(load=load)
                self.assertEqual(value[0], state_of(20, answers, pair))
                self.assertIs(log.check(value=value, load=load), True)

    def test_checking_loads(self):
        for many, answers in small_logs()[::3]:
            log = log_with(many, answers)
            for pair in loads_up_to(many):
                load = Load(*pair)
                self.assertIs(log.check(load, ("sure", None)), sum(pair) >= many - 1)
                self.assertIs(log.check(load, ("hopeless", None)), False)
                for other in loads_up_to(many):
                    sure = (other, True) in answers and covers(pair, other)
                    hopeless = (other, False) in answers and covers(other, pair)
                    self.assertIs(log.check(load, ("sure", Load(*other))), sure)
                    self.assertIs(log.check(load, ("hopeless", Load(*other))), hopeless)
                    self.assertIs(log.check(load, ("open", Load(*other), Load(*other))), False)

    def test_checking_rows(self):
        rows = [Row(*numbers) for numbers in small_rows(4) if len(numbers) in (2, 3, 4)][::3]
        for answers in ((), (((0, 1), False),), (((1, 0), True), ((0, 0), False))):
            log = log_with(3, answers)
            right = [len(row) == 3 and profile_of(row) in going_with(3, answers) for row in rows]
            for pair in ((0, 0), (0, 1), (1, 0), (1, 1), (2, 0)):
                load = Load(*pair)
                ends = [(row >> load).is_in_order for row in rows]
                for one, row in enumerate(rows):
                    for other in range(0, len(rows), 2):
                        expected = right[one] and right[other] and ends[one] and not ends[other]
                        self.assertIs(log.check(load, ("open", row, rows[other])), expected)

    def test_checking_values_of_every_kind(self):
        log = log_with(4, [((0, 2), False), ((1, 0), False), ((2, 0), True)])
        for pair in ((0, 0), (2, 0), (1, 1), (3, 3)):
            load = Load(*pair)
            right = log.ask(load)
            self.assertIs(log.check(load, right), True)
            self.assertIs(log.check(load, right[0]), False)
            for value in values_of_every_kind() + [Load(9, 9), Row(1, 2, 3, 4), log, [*right], (right,)]:
                self.assertIs(log.check(load, value), False)
                self.assertIs(log.check(load, (value, *right[1:])), False)
                self.assertIs(log.check(load, (*right, value)), False)
                for place in range(1, len(right)):
                    if not isinstance(value, Load) and not (value is None and pair == (3, 3)):
                        self.assertIs(log.check(load, (*right[:place], value, *right[place + 1:])), False)
            for value in (right[:-1], right[::-1], (), right * 2, ("Sure", None), ("open",), ("sure",), (b"sure", None)):
                self.assertIs(log.check(load, value), False)

    def test_states_of_the_other_kind(self):
        log = log_with(4, [((0, 2), False), ((1, 0), False), ((2, 0), True)])
        best, worst = log.best(), log.worst()
        self.assertIs(log.check(Load(1, 1), ("open", best, worst)), True)
        self.assertIs(log.check(Load(1, 1), ("open", worst, best)), False)
        self.assertIs(log.check(Load(1, 1), ("open", best, best)), False)
        for pair in ((0, 0), (2, 0), (1, 2), (0, 2)):
            self.assertIs(log.check(Load(*pair), ("open", best, worst)), False)
        self.assertIs(log.check(Load(0, 0), ("hopeless", Load(2, 0))), False)
        self.assertIs(log.check(Load(2, 0), ("sure", Load(1, 0))), False)


class Counting(Case):

    def test_small_logs(self):
        for many, answers in small_logs():
            log = log_with(many, answers)
            expected = going_with(many, answers)
            self.assertEqual(log.how_many(), len(expected))
            for pair in loads_up_to(many + 1) + [(1200, 0), (0, 1200)]:
                have = len([values for values in expected if has_load(values, pair)])
                self.assertEqual(log.parts(load=Load(*pair)), (have, len(expected) - have))
                self.assertIs(type(log.parts(Load(*pair))), tuple)
            self.assertEqual([profile(many, log.by_rank(rank)) for rank in range(len(expected))], expected)

    def test_wrong_ranks(self):
        for many, answers in small_logs()[::6]:
            log = log_with(many, answers)
            for value in not_integers() + [-1, log.how_many(), log.how_many() + 1, 10 ** 999, GivesSignsAMeaning()]:
                with self.subTest(value=value):
                    self.check_error(lambda: log.by_rank(value), InvalidRank, value=value)

    def test_20_numbers(self):
        log = Log(20)
        self.assertEqual(log.how_many(), 6564120420)
        self.assertEqual(profile(20, log.by_rank(rank=6564120419)), tuple(range(19, -1, -1)))
        for pair in ((0, 0), (0, 18), (18, 0), (9, 9), (5, 7), (30, 0)):
            have, have_not = log.parts(Load(*pair))
            other = log.copy()
            if log.state(Load(*pair)) == "open":
                other.tell(Load(*pair), False)
                self.assertEqual(other.how_many(), have_not)
                other.undo()
            other.tell(Load(*pair), True)
            self.assertEqual([other.how_many(), have + have_not], [have, 6564120420])

    def test_rows_that_go_with_a_log(self):
        for many, answers in small_logs()[::2]:
            log = log_with(many, answers)
            expected = going_with(many, answers)
            for numbers in list(permutations(range(many))) + small_rows(4)[::5]:
                row = Row(*numbers)
                self.assertIs(log.goes_with(row=row), len(row) == many and profile_of(row) in expected)
                self.assertEqual(row.numbers, numbers)

    def test_other_lengths(self):
        for many in range(1, 21):
            for other in range(1, 21):
                self.assertIs(Log(many).goes_with(Row(*range(other))), many == other)

    def test_worst_and_best(self):
        for many, answers in small_logs() + [(20, tuple(chance_answers(20, 30, seed))) for seed in range(5)]:
            log = log_with(many, answers)
            for row, stairs in ((log.worst(), log.sure), (log.best(), log.possible)):
                self.assertIs(type(row), Row)
                self.assertEqual(sorted(row.numbers), list(range(many)))
                self.assertEqual(Staircase.of_row(row), stairs)
                self.assertIs(log.goes_with(row), True)


class OpenLoads(Case):

    def test_small_logs(self):
        for many, answers in small_logs() + [(20, tuple(chance_answers(20, 9, seed))) for seed in range(3)]:
            log = log_with(many, answers)
            loads = list(log.open_loads())
            self.assertEqual(pairs_of(loads), open_pairs(many, answers))
            self.assertEqual({type(load) for load in loads} | {Load}, {Load})
            self.assertIs(log.is_settled, not loads)

    def test_two_walks_at_once(self):
        log = log_with(4, [((1, 0), False)])
        expected = open_pairs(4, [((1, 0), False)])
        one, other = log.open_loads(), log.open_loads()
        walked = [next(walk) for walk in (one, one, other, one, other)]
        self.assertEqual(pairs_of(walked), [expected[place] for place in (0, 1, 0, 2, 1)])
        self.assertEqual(len(list(one)) + len(list(other)), 2 * len(expected) - 5)

    def test_halving(self):
        for many, answers in small_logs():
            log = log_with(many, answers)
            staircases = going_with(many, answers)
            pairs = open_pairs(many, answers)
            load = log.halving()
            if not pairs:
                self.assertIsNone(load)
                continue
            have = [len([values for values in staircases if has_load(values, pair)]) for pair in pairs]
            greater = [max(number, len(staircases) - number) for number in have]
            self.assertEqual((load.forward, load.backward), pairs[greater.index(min(greater))])
            self.assertEqual(answers_of(log), list(answers))

    def test_halving_of_all_staircases(self):
        for many in range(2, 21):
            load = Log(many).halving()
            have, have_not = Log(many).parts(load)
            self.assertLess(3 * max(have, have_not), 2 * (have + have_not) + 2)
        self.assertIsNone(Log(1).halving())


class Missing(Case):

    def needed(self, many, values):
        return sorted(pair for pair, _ in between(values, values))

    def test_small_logs(self):
        for many, answers in small_logs():
            log = log_with(many, answers)
            for values in going_with(many, answers):
                stairs = stairs_with(values)
                told = [pair for pair, _ in answers]
                expected = [pair for pair in self.needed(many, values) if pair not in told]
                row = Log.between(many, stairs, stairs).worst()
                missing = log.missing(row=row)
                self.assertIs(type(missing), tuple)
                self.assertEqual(pairs_of(missing), expected)
                self.check_that_they_settle(log, row, missing)

    def check_that_they_settle(self, log, row, missing):
        for left_out in [None, *range(len(missing))]:
            other = log.copy()
            for position, load in enumerate(missing):
                if position != left_out:
                    other.tell(load, (row >> load).is_in_order)
            self.assertIs(other.is_settled, left_out is None)

    def test_rows_of_all_kinds(self):
        for numbers in small_rows(4):
            many = len(numbers)
            row = Row(*numbers)
            self.assertEqual(pairs_of(Log(many).missing(row)), self.needed(many, profile_of(row)))
            self.assertEqual(row.numbers, numbers)

    def test_the_staircase_that_needs_most_answers(self):
        for many in range(2, 21):
            stairs = Staircase(*[Load(a, many - 2 - a) for a in range(many - 1)])
            row = Log.between(many, stairs, stairs).best()
            self.assertEqual(len(Log(many).missing(row)), 2 * many - 3)

    def test_wrong_rows(self):
        for many, answers in small_logs()[::3]:
            log = log_with(many, answers)
            expected = going_with(many, answers)
            for numbers in list(permutations(range(many))) + small_rows(3):
                row = Row(*numbers)
                if len(row) != many or profile_of(row) not in expected:
                    self.check_error(lambda: log.missing(row), WrongRow)


class Between(Case):

    def test_small_counts(self):
        for many in range(1, 5):
            for one, other in pairs_of_profiles(many):
                possible, sure = stairs_with(one), stairs_with(other)
                log = Log.between(many, possible, sure)
                self.assertIs(type(log), Log)
                self.assertEqual([log.many, log.possible, log.sure], [many, possible, sure])
                self.assertEqual(answers_of(log), between(one, other))
                self.assertEqual(log.core(), tuple(range(len(log))))

    def test_all_counts(self):
        for many in range(1, 21):
            found = chance_profiles(many, 8)
            for one in found:
                for other in found:
                    lower, upper = stairs_with(one) | stairs_with(other), stairs_with(one) & stairs_with(other)
                    log = Log.between(sure=upper, possible=lower, many=many)
                    self.assertEqual([log.possible, log.sure], [lower, upper])
                    self.assertEqual(answers_of(log), between(profile(many, lower), profile(many, upper)))

    def test_wrong_counts(self):
        stairs = Staircase.of_corners(((1200, 1200),))
        for value in not_integers() + [0, 21, -1, 10 ** 999, GivesSignsAMeaning()]:
            self.check_error(lambda: Log.between(value, stairs, stairs), InvalidCount, value=value)

    def test_staircases_that_are_not_of_the_count(self):
        one, other, right = [Staircase.of_corners(corners) for corners in (((2, 3),), ((4, 1),), ((1, 1),))]
        self.check_error(lambda: Log.between(4, one, other), NotOfCount, load=Load(1, 2))
        self.check_error(lambda: Log.between(4, other, one), NotOfCount, load=Load(3, 0))
        self.check_error(lambda: Log.between(4, right, one), NotOfCount, load=Load(1, 2))
        self.check_error(lambda: Log.between(4, one, Staircase(Load(0, 0))), NotOfCount, load=Load(1, 2))

    def test_sure_loads_that_are_not_possible(self):
        for many in range(1, 5):
            for one in profiles(many):
                for other in profiles(many):
                    wrong = [pair for pair in loads_up_to(many) if has_load(other, pair) and not has_load(one, pair)]
                    if wrong:
                        stairs = stairs_with(one), stairs_with(other)
                        self.check_error(lambda: Log.between(many, *stairs), Broken, load=Load(*min(wrong)))


class OfBatches(Case):

    def check_batch(self, lists):
        batch = Batch(*[Row(*numbers) for numbers in lists])
        log = Log.of_batch(batch)
        union = Staircase.of_row(batch[0])
        for row in batch.rows:
            union = union | Staircase.of_row(row)
            self.assertIs(log.goes_with(row), True)
        self.assertEqual([log.sure, log.possible], [batch.staircase(), union])
        self.assertEqual(log, Log.between(len(lists[0]), union, batch.staircase()))
        self.assertEqual([row.numbers for row in batch.rows], lists)

    def test_rows_of_one_length(self):
        for many in range(1, 5):
            rows = [numbers for numbers in small_rows(4) if len(numbers) == many]
            self.check_batch(rows[:1])
            self.check_batch(rows[-1:])
            for place in range(10):
                self.check_batch((rows[place::11] or rows)[:20])
        for many in range(1, 21):
            self.check_batch([numbers for numbers in mixed_rows(300) if len(numbers) == many])
        self.check_batch([tuple(range(19, -1, -1))] * 20)

    def test_other_lengths(self):
        for lists in ([(1,), (1, 2)], [(1, 2), (1,)], [(1, 0)] * 19 + [(1, 0, 2)], [(1,), (2,), (1, 2, 3), (4,)]):
            batch = Batch(*[Row(*numbers) for numbers in lists])
            self.check_error(lambda: Log.of_batch(batch=batch), OtherCount)


class Cores(Case):

    def test_small_logs(self):
        for many, answers in small_logs() + [(6, tuple(chance_answers(6, 40, seed, 5))) for seed in range(10)]:
            log = log_with(many, answers)
            core = log.core()
            self.assertIs(type(core), tuple)
            self.assertEqual(core, core_of(many, answers))
            kept = log_with(many, [answers[position] for position in core])
            self.assertEqual([kept.sure, kept.possible], [log.sure, log.possible])
            least = [pair for pair in pairs_of(log.sure.least()) if sum(pair) < many - 1]
            self.assertEqual(len(core), len(least) + len(log.possible.corners()))
            self.assertEqual(answers_of(log), list(answers))

    def test_no_log_with_the_same_staircases_has_fewer(self):
        for many, answers in small_logs():
            size = len(log_with(many, answers).core())
            if 0 < size <= 3:
                expected = states_of(many, answers)
                choices = [(pair, answer) for pair in loads_up_to(many) for answer in (True, False)]
                for fewer in combinations(choices, size - 1):
                    if not any(state_of(many, fewer, pair) == "sure" for pair, answer in fewer if not answer):
                        self.assertNotEqual(states_of(many, fewer), expected)

    def test_known_answers(self):
        log = log_with(4, [((0, 0), False), ((0, 1), False), ((3, 3), True), ((0, 1), False), ((1, 0), True), ((2, 0), True)])
        self.assertEqual(log.core(), (1, 4))
        self.assertEqual(log_with(3, [((2, 0), True), ((0, 2), True), ((1, 1), True)]).core(), ())
        self.assertEqual(log_with(3, [((1, 0), True)] * 3).core(), (0,))
        self.assertEqual(Log(5).core(), ())

    def test_400_answers(self):
        answers = chance_answers(20, 400, 3, 19)
        log = log_with(20, answers)
        needed = between(profile(20, log.possible), profile(20, log.sure))
        self.assertEqual(log.core(), tuple(sorted(answers.index(answer) for answer in needed)))


class AfterLoads(Case):

    def test_small_logs(self):
        for many, answers in small_logs()[::2]:
            log = log_with(many, answers)
            rows = [stairs_of(values) for values in going_with(many, answers)]
            for pair in [(0, 0), (1, 0), (0, 1), (1, 2), (many, 0), (0, 1200), (1200, 1200)]:
                load = Load(*pair)
                after = log.after(load=load)
                self.assertIs(type(after), Log)
                possible, sure = log.possible.shifted(load), log.sure.shifted(load)
                self.assertEqual([after.many, after.possible, after.sure], [many, possible, sure])
                self.assertEqual(after, Log.between(many, possible, sure))
                expected = {profile(many, stairs.shifted(load)) for stairs in rows}
                found = [profile(many, after.by_rank(rank)) for rank in range(after.how_many())]
                self.assertEqual(found, sorted(expected))
                self.assertEqual(answers_of(log), list(answers))

    def test_rows_after_the_load(self):
        for many, answers in small_logs()[::4]:
            log = log_with(many, answers)
            for numbers in permutations(range(many)):
                row = Row(*numbers)
                if log.goes_with(row):
                    for load in (Load(1, 0), Load(0, 2), Load(1, 1)):
                        self.assertIs(log.after(load).goes_with(row >> load), True)
