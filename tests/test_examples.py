"""The examples of DOC.md."""

import unittest

from handsweeps.batches import Batch
from handsweeps.borders import count_stairs, order_for, profile, rank_of, stairs_by_rank
from handsweeps.comparing import compare_words
from handsweeps.decisions import check_source, decide
from handsweeps.hands import Hand
from handsweeps.loads import Load
from handsweeps.logs import Asker, Log
from handsweeps.plans import Planner, least_questions
from handsweeps.prices import Prices
from handsweeps.rows import Row
from handsweeps.staircases import Staircase
from handsweeps.sweeps import Backward, Forward
from handsweeps.words import load_of


class Examples(unittest.TestCase):

    def test_row_and_its_staircase(self):
        row = Row(2, 3, 0, 1)
        stairs = Staircase.of_row(row)
        after = (row >> Forward(1)).numbers, (row >> Load(1, 1)).numbers, (-row).numbers
        found = (
            after, stairs.corners(), stairs(1), Load(1, 2) in stairs, stairs.shifted(Load(1, 0)).corners(),
            decide(row, Load(2, 0))[1].numbers, decide(row, Load(1, 1))[0],
        )
        rows = (2, 0, 1, 3), (0, 2, 1, 3), (-1, 0, -3, -2)
        self.assertEqual(found, (rows, ((2, 2),), 2, True, ((1, 2),), (0, 1, 2, 3), "cut"))

    def test_hand_and_words(self):
        hand = Hand(2)
        given = [hand(5), hand(1), hand(4), hand.held]
        found = (
            given, list(hand.rest()), hand.held, compare_words(3, (Forward(2),), (Forward(1), Backward(1))),
            compare_words(4, (Forward(1),), (Backward(1),))[0],
        )
        self.assertEqual(found, ([None, None, 1, (4, 5)], [4, 5], (), ("alike", "all"), "row"))

    def test_sources_and_loads(self):
        source = check_source(Row(0, 1, 0, 1), Load(1, 1), ("source", Row(1, 1, 0, 0)))
        none = check_source(Row(1, 0, 1), Load(0, 1), ("bound", 1))
        load = load_of((Forward(2), Forward(3))) + 2 * Load(1, 4)
        found = source, none, load.forward, load.backward, bool(Load(0, 0)), -load == Load(8, 7)
        self.assertEqual(found, (True, True, 7, 8, False, True))

    def test_borders(self):
        stairs = Staircase.of_corners(((1, 3), (2, 1)))
        order = order_for(4, stairs)
        found = (
            Staircase.of_row(order) == stairs, profile(4, stairs), count_stairs(4), rank_of(4, stairs),
            profile(4, stairs_by_rank(4, 13)),
        )
        self.assertEqual(found, (True, (3, 1, 0, 0), 14, 10, (3, 2, 1, 0)))

    def test_prices(self):
        prices = Prices({1: 5, 3: 9}, {2: 4})
        stairs = Staircase.of_corners(((2, 3), (4, 1)))
        answer = prices(stairs)
        found = (
            answer[0], load_of(answer[1]) == Load(0, 4), prices.price_of(answer[1]), prices.check(stairs, answer),
            prices.within(stairs, 7)[0], prices.within(stairs, 8)[0],
        )
        self.assertEqual(found, ("word", True, 8, True, "floors", "word"))

    def test_batches(self):
        batch = Batch(Row(2, 3, 0, 1), Row(1, 0), Row(3, 1, 2), Row(1, 2, 0))
        found = batch.staircase().corners(), batch.owners(), batch.core(), Batch(Row(1, 2), Row(5)).core()
        self.assertEqual(found, (((2, 2),), ((0,),), (0,), ()))

    def test_logs(self):
        log = Log(3)
        log.tell(Load(0, 1), False)
        found = (
            log.state(Load(0, 0)), log.state(Load(1, 0)), log.state(Load(1, 1)), log.how_many(), log.parts(Load(1, 0)),
            log.ask(Load(1, 0))[0], log.is_settled,
        )
        self.assertEqual(found, ("hopeless", "open", "sure", 2, (1, 1), "open", False))

    def test_askers(self):
        log = Log(3)
        log.tell(Load(0, 1), False)
        log.tell(Load(1, 0), True)
        asker = Asker.of(log)
        found = (
            log.is_settled, log.sure.corners(), log.worst().numbers, asker.next_load, Asker(4).next_load == Load(0, 2),
        )
        self.assertEqual(found, (True, ((1, 2),), (2, 0, 1), None, True))

    def test_plans(self):
        planner = Planner(Prices({1: 4}, {1: 5}), 100)
        log = Log(3)
        answer = planner(log)
        some = Log.of_batch(Batch(Row(3, 1, 2), Row(1, 3, 2)))
        found = (
            answer[1], answer[2][0], planner.check(log, answer), least_questions(log),
            planner.cost_for(answer[2], Row(1, 2, 3)), some.how_many(), len(some),
        )
        self.assertEqual(found, (40, "buy", True, 3, 8, 2, 2))


if __name__ == "__main__":
    unittest.main()
