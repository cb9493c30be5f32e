"""Module handsweeps.plans: points [70] to [74]."""

from itertools import permutations
from time import perf_counter

from handsweeps.borders import profile
from handsweeps.errors import InvalidQuestion, LimitExceeded, NothingForSale
from handsweeps.loads import Load
from handsweeps.logs import Log, spread
from handsweeps.plans import Planner, follow, least_questions
from handsweeps.prices import Prices
from handsweeps.rows import Row
from handsweeps.staircases import Staircase
from handsweeps.sweeps import Backward, Forward
from tests.cases import Case
from tests.samples import (
    GivesSignsAMeaning, going_with, has_load, loads_up_to, log_with, not_integers, operators_of, profiles, small_logs,
    stairs_with, values_of_every_kind,
)

LISTS = (({1: 4}, {1: 5}), ({1: 5, 3: 9}, {2: 4}), ({2: 7}, {}), ({}, {3: 1, 1: 1}), ({1: 1}, {1: 1000}))
QUESTIONS = (0, 1, 3, 100, 1000)
SMALL_LOGS = [(many, answers) for many, answers in small_logs() if many <= 4][::2]


def price_for(prices, values):
    """The least price for the staircase with a profile, which test_prices looks at."""
    return prices.price_of(prices(stairs_with(values))[1])


def pair_of(staircases):
    """The pair of a log with which the staircases with these profiles go ([72])."""
    return tuple(map(min, zip(*staircases))), tuple(map(max, zip(*staircases)))


def open_pairs(staircases):
    """The loads that some of the staircases have, and some have not."""
    pairs = loads_up_to(len(staircases[0]))
    return [pair for pair in pairs if len({has_load(values, pair) for values in staircases}) == 2]


def parted(staircases, pair):
    """The staircases that have a load, and those that do not."""
    return [tuple(values for values in staircases if has_load(values, pair) is answer) for answer in (True, False)]


def least_total(prices, question, staircases, known):
    """The least total of all plans ([71]), by trying them all; known keeps the totals."""
    if staircases not in known:
        totals = [len(staircases) * price_for(prices, pair_of(staircases)[1])]
        for pair in open_pairs(staircases):
            parts = [least_total(prices, question, part, known) for part in parted(staircases, pair)]
            totals.append(len(staircases) * question + sum(parts))
        known[staircases] = min(totals)
    return known[staircases]


def total_of(prices, question, staircases, plan):
    """The total of any value as a plan ([70], [71]), None if it is none."""
    if type(plan) is not tuple or not plan or type(plan[0]) is not str:
        return None
    if plan[0] == "buy" and len(plan) == 2:
        word = plan[1]
        if type(word) is not tuple or not all(type(sweep) in (Forward, Backward) for sweep in word):
            return None
        entries = [(prices.forward if type(sweep) is Forward else prices.backward).get(sweep.size) for sweep in word]
        sums = [sum(sweep.size for sweep in word if type(sweep) is kind) for kind in (Forward, Backward)]
        if None in entries or not has_load(pair_of(staircases)[1], sums):
            return None
        return len(staircases) * sum(entries)
    if plan[0] != "ask" or len(plan) != 4 or type(plan[1]) is not Load:
        return None
    pair = plan[1].forward, plan[1].backward
    if pair not in open_pairs(staircases):
        return None
    totals = [total_of(prices, question, part, later) for part, later in zip(parted(staircases, pair), plan[2:])]
    return None if None in totals else len(staircases) * question + sum(totals)


def is_plain_profile(many, value):
    return type(value) is tuple and all(type(item) is int for item in value) and value in profiles(many)


def is_ground(prices, question, many, value):
    """Whether any value is a ground ([72])."""
    if type(value) is not dict:
        return False
    for pair, number in value.items():
        if type(number) is not int or type(pair) is not tuple or len(pair) != 2:
            return False
        if not all(is_plain_profile(many, item) for item in pair) or any(a > b for a, b in zip(*pair)):
            return False
    for (low, high), number in value.items():
        staircases = [
            values for values in profiles(many)
            if all(a <= b for a, b in zip(low, values)) and all(a <= b for a, b in zip(values, high))
        ]
        if number > len(staircases) * price_for(prices, high):
            return False
        for pair in open_pairs(staircases):
            later = [value.get(pair_of(part), 0) for part in parted(staircases, pair)]
            if number > len(staircases) * question + sum(later):
                return False
    return True


def is_right(planner, many, answers, value):
    """What check has to tell."""
    prices, question = planner.prices, planner.question
    if type(value) is not tuple or len(value) != 4 or type(value[0]) is not str or value[0] != "plan":
        return False
    _, total, plan, ground = value
    staircases = going_with(many, answers)
    if type(total) is not int or total_of(prices, question, staircases, plan) != total:
        return False
    if not is_ground(prices, question, many, ground):
        return False
    return ground.get(pair_of(staircases), total - 1) >= total


def is_least(planner, many, answers, value):
    """Whether the total is the least one of all plans."""
    return value[1] == least_total(planner.prices, planner.question, tuple(going_with(many, answers)), {})


def changed(value):
    """The value with changes at one place, at each place of it."""
    if type(value) is dict:
        found = [list(value.items()), None]
        for key in value:
            others = [value[key] + 1, value[key] - 1, -7, True, None, str(value[key]), -10 ** 999, 10 ** 999]
            found += [{**value, key: other} for other in others]
            found.append({other: value[other] for other in value if other != key})
        return found
    if type(value) is not tuple:
        others = [None, True, (), [], "buy", "ask", "plan", GivesSignsAMeaning(), Forward(20), Backward(1), Load(0, 1)]
        if type(value) is int:
            others += [value + 1, value - 1, 0, 10 ** 999]
        return others + [Load(1, 0), Load(9, 9)]
    found = [list(value), value + (None,), (value,), value[::-1]]
    for place, item in enumerate(value):
        found += [value[:place] + (other,) + value[place + 1:] for other in changed(item)]
        found.append(value[:place] + value[place + 1:])
    return found


def rows_with(many, answers):
    """Orders that go with answers, one for each staircase at least."""
    rows = [Row(*numbers) for numbers in permutations(range(many))]
    expected = going_with(many, answers)
    return [row for row in rows if profile(many, Staircase.of_row(row)) in expected]


class Creating(Case):

    def test_fields(self):
        for lists in LISTS:
            prices = Prices(*lists)
            for question in (0, 1, 999, 1000):
                planner = Planner(question=question, prices=prices)
                self.assertIs(planner.prices, prices)
                self.assertEqual(planner.question, question)
        for name in ("prices", "question"):
            self.assertRaises(AttributeError, setattr, planner, name, 1)

    def test_nothing_is_for_sale(self):
        for question in (0, 5, 1001, None, True):
            self.check_error(lambda: Planner(Prices({}, {}), question), NothingForSale)

    def test_wrong_questions(self):
        for value in not_integers() + [-1, 1001, 1002, 10 ** 999, -10 ** 999, GivesSignsAMeaning()]:
            for lists in LISTS[:3]:
                with self.subTest(value=value):
                    self.check_error(lambda: Planner(Prices(*lists), value), InvalidQuestion, value=value)

    def test_equal_to_itself_only(self):
        one, other = [Planner(Prices({1: 1}, {}), 3) for _ in range(2)]
        self.assertTrue(one == one)
        self.assertFalse(one == other)
        self.assertTrue(one != other)
        for act in operators_of():
            self.assertRaises(TypeError, act, one, other)


class Planning(Case):

    def test_the_least_total(self):
        for lists in LISTS:
            for question in QUESTIONS:
                planner = Planner(Prices(*lists), question)
                for many, answers in SMALL_LOGS[::3]:
                    log = log_with(many, answers)
                    value = planner(log)
                    self.assertEqual([type(value), len(value), value[0]], [tuple, 4, "plan"])
                    self.assertTrue(is_least(planner, many, answers, value))
                    self.assertTrue(is_right(planner, many, answers, value))
                    self.assertIs(planner.check(log, value), True)
                    self.assertEqual(log, log_with(many, answers))

    def test_all_small_logs(self):
        planner = Planner(Prices({1: 4, 3: 7}, {1: 5}), 2)
        for many, answers in SMALL_LOGS:
            value = planner(log=log_with(many, answers))
            self.assertTrue(is_least(planner, many, answers, value))
            self.assertIs(planner.check(value=value, log=log_with(many, answers)), True)

    def test_5_numbers(self):
        start = perf_counter()
        for lists in LISTS[:3]:
            for question in (0, 1, 100):
                planner = Planner(Prices(*lists), question)
                value = planner(Log(5))
                self.assertIs(planner.check(Log(5), value), True)
        self.assertLess(perf_counter() - start, 20)
        planner = Planner(Prices({1: 4, 3: 7}, {1: 5}), 1)
        for answers in (((1, 1), False),), (((0, 2), True), ((2, 0), False)), (((0, 1), True), ((1, 0), True)):
            value = planner(log_with(5, answers))
            self.assertTrue(is_least(planner, 5, answers, value))
            self.assertTrue(is_right(planner, 5, answers, value))

    def test_questions_that_cost_nothing(self):
        for lists in LISTS:
            planner = Planner(Prices(*lists), 0)
            for many, answers in SMALL_LOGS[::5] + [(5, ())]:
                prices = [price_for(planner.prices, values) for values in going_with(many, answers)]
                self.assertEqual(planner(log_with(many, answers))[1], sum(prices))

    def test_dear_questions(self):
        for lists in LISTS:
            prices = Prices(*lists)
            for many, answers in SMALL_LOGS[::5] + [(5, ())]:
                log = log_with(many, answers)
                one, other = spread(prices, log)
                planner = Planner(prices, min(1000, other - one))
                if other - one <= 1000:
                    self.assertEqual(planner(log)[1], other * log.how_many())
                    buying = ("plan", other * log.how_many(), ("buy", prices(log.sure)[1]), planner(log)[3])
                    self.assertIs(planner.check(log, buying), True)

    def test_settled_logs(self):
        planner = Planner(Prices({1: 4}, {1: 5}), 0)
        for many in range(1, 6):
            log = Log.between(many, Staircase(Load(0, 0)), Staircase(Load(0, 0)))
            pair = (0,) * many, (0,) * many
            self.assertEqual(planner(log), ("plan", 0, ("buy", ()), {pair: 0}))
            self.assertIs(planner.check(log, ("plan", 0, ("buy", ()), {pair: 0})), True)
            for ground, expected in (({}, False), ({pair: -1}, False), ({pair: 1}, False), ({pair: False}, False)):
                self.assertIs(planner.check(log, ("plan", 0, ("buy", ()), ground)), expected)

    def test_new_grounds(self):
        planner = Planner(Prices({1: 4}, {1: 5}), 3)
        value = planner(Log(3))
        value[3].clear()
        self.assertIs(planner.check(Log(3), planner(Log(3))), True)
        self.assertIs(planner.check(Log(3), value), False)
        self.assertEqual(value[3], {})

    def test_too_many_numbers(self):
        planner = Planner(Prices({1: 4}, {1: 5}), 3)
        for many in range(6, 21):
            for log in (Log(many), Log.between(many, Staircase(Load(0, 0)), Staircase(Load(0, 0)))):
                self.check_error(lambda: planner(log), LimitExceeded, limit=5)
                self.check_error(lambda: least_questions(log), LimitExceeded, limit=5)
                for value in (None, ("plan", 0, ("buy", ()), {})):
                    self.check_error(lambda: planner.check(log, value), LimitExceeded, limit=5)


class Checking(Case):

    LOGS = ((1, ()), (2, ()), (3, ()), (3, (((0, 1), False),)), (4, (((0, 1), False), ((1, 1), True))))

    def check_values(self, planner, many, answers, values):
        log = log_with(many, answers)
        accepted = 0
        for value in values:
            expected = is_right(planner, many, answers, value)
            self.assertIs(planner.check(log, value), expected)
            if expected:
                self.assertTrue(is_least(planner, many, answers, value))
            accepted += expected
        self.assertEqual(log, log_with(many, answers))
        return accepted

    def test_changes_at_one_place(self):
        accepted = 0
        for lists, question in ((LISTS[0], 0), (LISTS[0], 1), (LISTS[1], 1), (LISTS[4], 3), (LISTS[0], 1000)):
            planner = Planner(Prices(*lists), question)
            for many, answers in self.LOGS:
                value = planner(log_with(many, answers))
                accepted += self.check_values(planner, many, answers, changed(value))
        self.assertGreater(accepted, 10)

    def test_other_grounds(self):
        planner = Planner(Prices({1: 4}, {1: 5}), 1)
        log = Log(3)
        _, total, plan, ground = planner(log)
        pair = (0, 0, 0), (2, 1, 0)
        less = {key: number - (key != pair) for key, number in ground.items()}
        values = [("plan", total, plan, other) for other in (
            ground, {key: ground[key] for key in reversed(list(ground))}, less, {pair: ground[pair]}, {pair: 0}, {},
            {**ground, pair: total - 1}, {**ground, pair: total + 1}, {**ground, pair: 10 ** 999},
            {key: -5 for key in ground}, {**{key: -5 for key in ground}, pair: total}, {key: 0 for key in ground},
            [*ground.items()], tuple(ground.items()), None, log,
        )]
        self.assertGreater(self.check_values(planner, 3, (), values), 1)

    def test_grounds_with_few_pairs(self):
        # Where asking is never better, the pair of the log is not the only one that a ground needs.
        planner = Planner(Prices({1: 4}, {1: 5}), 100)
        for many in (1, 2, 3):
            _, total, plan, ground = planner(Log(many))
            pair = (0,) * many, tuple(range(many - 1, -1, -1))
            values = [("plan", total, plan, {pair: total}), ("plan", total, plan, {pair: total, (pair[0],) * 2: 0})]
            self.assertEqual(self.check_values(planner, many, (), values), 2)

    def test_0_stands_for_a_pair_that_is_not_there(self):
        planner = Planner(Prices({1: 4}, {1: 5}), 3)
        pair, yes, no = ((0, 0), (1, 0)), ((0, 0), (0, 0)), ((1, 0), (1, 0))
        for ground, expected in (
            ({pair: 8, no: 2}, True), ({pair: 8, no: 1}, False), ({pair: 8, no: 2, yes: 0}, True), ({pair: 8}, False),
            ({pair: 8, no: 3, yes: -1}, True), ({pair: 8, no: 2, yes: -1}, False), ({pair: 8, no: 4}, True),
            ({pair: 8, no: 5}, False), ({pair: 8, no: 2, yes: 1}, False), ({pair: 9, no: 4}, False),
        ):
            value = "plan", 8, ("buy", (Forward(1),)), ground
            self.assertIs(is_right(planner, 2, (), value), expected)
            self.assertIs(planner.check(Log(2), value), expected)

    def test_wrong_keys(self):
        planner = Planner(Prices({1: 4}, {1: 5}), 1)
        _, total, plan, ground = planner(Log(3))
        keys = [
            ((0, 0, 0),), ((0, 0, 0), (2, 1, 0), (2, 1, 0)), (0, 0, 0), ((0, 0), (1, 0)), ((0, 0, 0, 0), (3, 2, 1, 0)),
            ((2, 1, 0), (0, 0, 0)), ((0, 0, 0), (2, 2, 0)), ((0, 0, 0), (0, 1, 0)), ((0, 0, 0), (2, 1, 1)),
            ((0, 0, 0), (3, 1, 0)), ((-1, -1, -1), (2, 1, 0)), ((1, 0, 0), (0, 0, 0)), ((1, 1, 0), (2, 0, 0)),
            ((0, 0, 0), 210), (None, (2, 1, 0)), ("000", "210"), ((0, 0, 0), "210"), ((), ()), ((0, 0, 0), ()),
            ((0, 0, 0), (2, 1, None)), ((0, 0, 0), (2, 1, (0,))), ((0, 0, 0), (10 ** 999, 1, 0)),
        ]
        for value in values_of_every_kind():
            try:
                hash(value)
            except TypeError:
                continue
            keys += [value, (value, value), ((0, 0, 0), value), (value, (2, 1, 0)), ((0, 0, 0), (2, 1, value))]
        for key in keys:
            if key not in ground:
                for number in (0, -1, -1000):
                    value = "plan", total, plan, {**ground, key: number}
                    self.assertFalse(is_right(planner, 3, (), value))
                    self.assertIs(planner.check(Log(3), value), False)

    def test_true_and_false_in_keys(self):
        planner = Planner(Prices({1: 4}, {1: 5}), 1)
        _, total, plan, ground = planner(Log(3))
        for key in ground:
            for part in range(2):
                for place, item in enumerate(key[part]):
                    if item < 2:
                        wrong = key[part][:place] + (bool(item),) + key[part][place + 1:]
                        other = (wrong, key[1]) if part == 0 else (key[0], wrong)
                        changed_ground = {one: number for one, number in ground.items() if one != key}
                        value = "plan", total, plan, {**changed_ground, other: ground[key]}
                        self.assertFalse(is_right(planner, 3, (), value))
                        self.assertIs(planner.check(Log(3), value), False)

    def test_other_plans(self):
        # With one price for all, and questions that cost nothing, many plans have the least total.
        planner = Planner(Prices({1: 1, 2: 2}, {1: 1}), 0)
        _, total, _, ground = planner(Log(3))
        buying = [("buy", word) for word in (
            (), (Forward(1),), (Backward(1),), (Forward(1), Forward(1)), (Forward(2),), (Forward(1), Backward(1)),
            (Backward(1), Backward(1)), (Forward(1), Forward(2)), (Forward(3),), (Backward(2),), [Forward(1)], None,
        )]
        loads = [Load(*pair) for pair in loads_up_to(3)] + [(0, 0), (0, 1), None]
        one = [("ask", load, yes, no) for load in loads for yes in buying for no in buying]
        for answers in ((((0, 0), False),), (((0, 1), True), ((0, 0), False)), (((1, 0), False), ((0, 0), False))):
            total = planner(log_with(3, answers))[1]
            values = [("plan", total, plan, ground) for plan in buying + one]
            accepted = self.check_values(planner, 3, answers, values)
            if len(answers) > 1:
                self.assertGreater(accepted, 1)

    def test_needless_questions(self):
        planner = Planner(Prices({1: 1}, {1: 1}), 0)
        stairs = Staircase.of_corners(((1, 1),))
        log = Log.between(2, stairs, stairs)
        answers = (((0, 0), False),)
        ground = planner(log)[3]
        buying = ("buy", (Forward(1),))
        values = [("plan", 1, ("ask", Load(*pair), buying, buying), ground) for pair in loads_up_to(2)]
        self.assertEqual(self.check_values(planner, 2, answers, values), 0)

    def test_deep_plans(self):
        planner = Planner(Prices({1: 1}, {1: 1}), 0)
        _, total, plan, ground = planner(Log(3))
        for load in (Load(0, 0), Load(0, 1), Load(1, 1), None):
            deep = ("buy", (Forward(1), Forward(1)))
            for _ in range(40):
                deep = ("ask", load, deep, plan)
            other = ()
            for _ in range(48):
                other = (other,)
            values = [("plan", total, deep, ground), ("plan", total, other, ground), other, [other]]
            values += [("plan", total, ("ask", load, plan, deep), ground), ("plan", total, ("buy", other), ground)]
            self.assertEqual(self.check_values(planner, 3, (), values), 0)

    def test_values_of_every_kind(self):
        planner = Planner(Prices({1: 4}, {1: 5}), 1)
        right = planner(Log(3))
        values = values_of_every_kind() + [Log(3), planner, right[2], right[3], [*right]]
        for value in values:
            self.check_values(planner, 3, (), [value, (value,), (value,) + right[1:], right + (value,)])
            for place in range(1, 4):
                wrong = right[:place] + (value,) + right[place + 1:]
                self.assertIs(planner.check(Log(3), wrong), is_right(planner, 3, (), wrong))

    def test_values_stay(self):
        planner = Planner(Prices({1: 4}, {1: 5}), 1)
        value = planner(Log(3))
        before = dict(value[3])
        planner.check(Log(3), value)
        self.assertEqual([value[3], list(value[3])], [before, list(before)])


class Following(Case):

    def check_plan(self, planner, many, answers, value):
        log = log_with(many, answers)
        costs = {}
        for row in rows_with(many, answers):
            told, word = follow(value[2], row)
            self.assertEqual([type(told), type(word)], [tuple, tuple])
            known = log.copy()
            now = value[2]
            for load, answer in told:
                self.assertEqual([now[0], now[1]], ["ask", load])
                self.assertIs(answer, (row >> load).is_in_order)
                self.assertEqual(known.state(load), "open")
                known.tell(load, answer)
                now = now[2] if answer else now[3]
            self.assertEqual(now, ("buy", word))
            self.assertIs(known.goes_with(row), True)
            after = row
            for sweep in word:
                after = after >> sweep
            self.assertIs(after.is_in_order, True)
            cost = planner.cost_for(value[2], row)
            self.assertEqual(cost, planner.question * len(told) + planner.prices.price_of(word))
            costs[profile(many, Staircase.of_row(row))] = cost
        self.assertEqual(sorted(costs), going_with(many, answers))
        self.assertEqual(sum(costs.values()), value[1])

    def test_plans_of_the_planner(self):
        for lists in LISTS:
            for question in (0, 1, 3, 100):
                planner = Planner(Prices(*lists), question)
                for many, answers in SMALL_LOGS[::4]:
                    self.check_plan(planner, many, answers, planner(log_with(many, answers)))

    def test_5_numbers(self):
        for question in (0, 1):
            planner = Planner(Prices({1: 5, 3: 9}, {2: 4}), question)
            value = planner(Log(5))
            self.assertEqual(value[2][0], "ask")
            self.check_plan(planner, 5, (), value)

    def test_ordinary_plans(self):
        planner = Planner(Prices({1: 4}, {1: 5}), 7)
        dear, cheap = ("buy", (Forward(1), Forward(1))), ("buy", ())
        plan = ("ask", Load(1, 0), ("ask", Load(0, 0), cheap, ("buy", (Forward(1),))), dear)
        for row, answers, word, cost in (
            (Row(1, 2, 3), (True, True), (), 14), (Row(2, 1, 3), (True, False), (Forward(1),), 18),
            (Row(3, 2, 1), (False,), (Forward(1), Forward(1)), 15),
        ):
            told = tuple(zip((Load(1, 0), Load(0, 0)), answers))
            self.assertEqual(follow(row=row, plan=plan), (told, word))
            self.assertEqual(planner.cost_for(row=row, plan=plan), cost)
        self.assertEqual(follow(dear, Row(3, 2, 1)), ((), (Forward(1), Forward(1))))
        self.assertEqual(planner.cost_for(cheap, Row(1, 2, 3)), 0)


class LeastQuestions(Case):

    def least(self, staircases, known):
        """The least number of questions, by trying all ways of asking."""
        if staircases not in known:
            ways = [
                1 + max(self.least(part, known) for part in parted(staircases, pair)) for pair in open_pairs(staircases)
            ]
            known[staircases] = min(ways, default=0)
        return known[staircases]

    def test_all_ways_of_asking(self):
        for many, answers in SMALL_LOGS:
            log = log_with(many, answers)
            expected = self.least(tuple(going_with(many, answers)), {})
            self.assertEqual(least_questions(log=log), expected)
            self.assertEqual(log, log_with(many, answers))

    def test_without_answers(self):
        self.assertEqual([least_questions(Log(many)) for many in range(1, 6)], [0, 1, 3, 5, 7])

    def test_settled_logs(self):
        for many in range(1, 6):
            for values in profiles(many)[::3]:
                self.assertEqual(least_questions(Log.between(many, stairs_with(values), stairs_with(values))), 0)

    def test_some_logs_about_5_numbers(self):
        known = {}
        for many, answers in small_logs():
            if many == 5 and len(going_with(many, answers)) <= 14:
                expected = self.least(tuple(going_with(many, answers)), known)
                self.assertEqual(least_questions(log_with(many, answers)), expected)
