"""Askers and spread of module handsweeps.logs: points [63], [52] and [67]."""

from handsweeps.borders import profile
from handsweeps.errors import InvalidAnswer, InvalidCount, LimitExceeded, NothingToAsk
from handsweeps.loads import Load
from handsweeps.logs import Asker, Log, spread
from handsweeps.prices import Prices
from handsweeps.staircases import Staircase
from handsweeps.words import load_of
from tests.cases import Case
from tests.samples import (
    GivesSignsAMeaning, chance_answers, chance_profiles, going_with, has_load, log_with, not_integers, operators_of,
    pairs_of, profiles, small_logs, stairs_with, state_of, values_of_every_kind,
)


def answers_of(log):
    return [((load.forward, load.backward), answer) for load, answer in log.answers]


def walked(many, answers, values):
    """The answers of the walk of [63], behind others, for the staircase with a profile."""
    told = list(answers)
    a, b = 0, many - 2
    while b >= 0:
        state = state_of(many, told, (a, b))
        if state == "open":
            told.append(((a, b), has_load(values, (a, b))))
        elif state == "sure":
            b -= 1
        else:
            a += 1
    return told


class Askers(Case):

    def check_walk(self, asker, many, answers, values):
        expected = walked(many, answers, values)
        for pair, answer in expected[len(answers):]:
            load = asker.next_load
            self.assertIs(type(load), Load)
            self.assertEqual((load.forward, load.backward), pair)
            self.assertEqual(asker.next_load, load)
            self.assertIsNone(asker.tell(answer=answer))
        self.assertIsNone(asker.next_load)
        log = asker.log()
        self.assertEqual(answers_of(log), expected)
        self.assertIs(log.is_settled, True)
        self.assertEqual(profile(many, log.sure), values)
        return len(expected) - len(answers)

    def test_all_staircases(self):
        for many in range(1, 7):
            most = 0
            for values in profiles(many):
                most = max(most, self.check_walk(Asker(many), many, (), values))
            self.assertEqual(most, max(0, 2 * many - 3))

    def test_all_counts(self):
        for many in range(1, 21):
            for values in chance_profiles(many, 5):
                asked = self.check_walk(Asker(many=many), many, (), values)
                self.assertLessEqual(asked, max(0, 2 * many - 3))

    def test_the_staircase_that_needs_most_questions(self):
        for many in range(2, 21):
            values = tuple(max(0, many - 2 - a) for a in range(many))
            self.assertEqual(self.check_walk(Asker(many), many, (), values), 2 * many - 3)

    def test_the_first_question(self):
        self.assertIsNone(Asker(1).next_load)
        for many in range(2, 21):
            self.assertEqual(Asker(many).next_load, Load(0, many - 2))

    def test_askers_that_go_on_from_a_log(self):
        for many, answers in small_logs():
            log = log_with(many, answers)
            for values in going_with(many, answers):
                asker = Asker.of(log=log)
                self.assertIs(type(asker), Asker)
                self.assertTrue(asker.log() == log)
                self.check_walk(asker, many, answers, values)
                self.assertEqual(answers_of(log), list(answers))
        for seed in range(5):
            answers = chance_answers(20, 20, seed)
            log = log_with(20, answers)
            self.check_walk(Asker.of(log), 20, answers, profile(20, log.by_rank(log.how_many() // 2)))

    def test_copies(self):
        log = log_with(4, [((0, 1), False)])
        asker = Asker.of(log)
        log.tell(Load(1, 0), True)
        self.assertEqual(len(asker.log()), 1)
        told = asker.log()
        told.undo()
        asker.tell(True)
        self.assertEqual([len(told), len(log), len(asker.log())], [0, 2, 2])
        self.assertIsNot(asker.log(), asker.log())

    def test_wrong_answers(self):
        for asker in (Asker(4), Asker(1), Asker.of(log_with(4, [((0, 1), False)]))):
            before = asker.log(), asker.next_load
            for value in values_of_every_kind() + [0, 1, "yes", bool]:
                if type(value) is not bool:
                    with self.subTest(value=value):
                        self.check_error(lambda: asker.tell(value), InvalidAnswer, value=value)
                        self.assertEqual((asker.log(), asker.next_load), before)

    def test_nothing_to_ask(self):
        settled = Asker(3)
        while settled.next_load is not None:
            settled.tell(False)
        for asker in (Asker(1), settled, Asker.of(log_with(2, [((0, 0), True)]))):
            before = asker.log()
            for answer in (True, False):
                self.check_error(lambda: asker.tell(answer), NothingToAsk)
                self.assertEqual(asker.log(), before)

    def test_400_answers(self):
        full = log_with(4, [((1, 0), False)] * 400)
        asker = Asker.of(full)
        self.assertEqual(asker.next_load, Load(0, 2))
        for answer in (True, False):
            self.check_error(lambda: asker.tell(answer), LimitExceeded, limit=400)
        self.check_error(lambda: asker.tell(1), InvalidAnswer, value=1)
        self.assertEqual([asker.log(), asker.next_load], [full, Load(0, 2)])
        full.undo()
        asker = Asker.of(full)
        asker.tell(True)
        self.assertEqual(len(asker.log()), 400)
        self.check_error(lambda: asker.tell(True), LimitExceeded, limit=400)
        settled = Asker.of(log_with(2, [((0, 0), True)] * 400))
        self.check_error(lambda: settled.tell(True), NothingToAsk)

    def test_wrong_counts(self):
        for value in not_integers() + [0, 21, -1, 10 ** 999, -10 ** 999, GivesSignsAMeaning()]:
            self.check_error(lambda: Asker(value), InvalidCount, value=value)

    def test_equal_to_itself_only(self):
        one, other = Asker(3), Asker(3)
        self.assertTrue(one == one)
        self.assertFalse(one == other)
        self.assertTrue(one != other)
        self.assertRaises(AttributeError, setattr, one, "next_load", None)
        for act in operators_of():
            self.assertRaises(TypeError, act, one, other)


class Spreads(Case):

    LISTS = (({1: 5, 3: 9}, {2: 4}), ({1: 4}, {1: 5}), ({2: 7}, {}), ({}, {3: 1}), ({}, {}))

    def test_least_prices(self):
        for lists in self.LISTS:
            prices = Prices(*lists)
            for many, answers in small_logs()[::3]:
                log = log_with(many, answers)
                expected = []
                for stairs in (log.possible, log.sure):
                    answer = prices(stairs)
                    expected.append(prices.price_of(answer[1]) if answer[0] == "word" else None)
                self.assertEqual(spread(log=log, prices=prices), tuple(expected))
                self.assertIs(type(spread(prices, log)), tuple)
                self.assertEqual(answers_of(log), list(answers))

    def test_nothing_can_be_bought(self):
        prices = Prices({}, {})
        self.assertEqual(spread(prices, Log(1)), (0, 0))
        self.assertEqual(spread(prices, Log(4)), (0, None))
        self.assertEqual(spread(prices, log_with(4, [((0, 0), False)])), (None, None))
        self.assertEqual(spread(prices, log_with(4, [((0, 0), True)])), (0, 0))

    def test_ordinary_logs(self):
        prices = Prices({1: 4}, {1: 5})
        self.assertEqual(spread(prices, Log(3)), (0, 8))
        self.assertEqual(spread(prices, log_with(3, [((0, 1), True), ((1, 0), False)])), (5, 5))
        self.assertEqual(spread(prices, log_with(3, [((0, 1), False), ((1, 0), False)])), (8, 8))
        self.assertEqual(pairs_of(log_with(3, [((0, 1), True)]).sure.least()), [(0, 1), (2, 0)])

    def test_after_words(self):
        # The least price for the sure staircase is at most the price of a word and what is left after it ([67]).
        for lists in self.LISTS[:4]:
            prices = Prices(*lists)
            for many, answers in small_logs()[::7]:
                log = log_with(many, answers)
                for corners in ((), ((1, 1),), ((2, 1),)):
                    answer = prices(Staircase.of_corners(corners))
                    word = answer[1]
                    left = spread(prices, log.after(load_of(word)))[1]
                    self.assertLessEqual(spread(prices, log)[1], prices.price_of(word) + left)

    def test_settled_logs(self):
        prices = Prices({1: 4, 3: 7}, {1: 5})
        for values in profiles(4):
            stairs = stairs_with(values)
            one, other = spread(prices, Log.between(4, stairs, stairs))
            self.assertEqual([one, other], [prices.price_of(prices(stairs)[1])] * 2)
