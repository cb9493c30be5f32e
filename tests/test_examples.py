"""The examples of DOC.md, as far as their modules are there."""

import unittest

from handsweeps.borders import count_stairs, order_for, profile, rank_of, stairs_by_rank
from handsweeps.comparing import compare_words
from handsweeps.decisions import check_source, decide
from handsweeps.hands import Hand
from handsweeps.loads import Load
from handsweeps.rows import Row
from handsweeps.staircases import Staircase
from handsweeps.sweeps import Backward, Forward
from handsweeps.words import load_of


class Examples(unittest.TestCase):

    def test_row_and_its_staircase(self):
        row = Row(2, 3, 0, 1)
        stairs = Staircase.of_row(row)
        after = (row >> Forward(1)).numbers, (row >> Load(1, 1)).numbers, (-row).numbers
        found = (
            after, stairs.corners(), stairs(1), Load(1, 2) in stairs, stairs.shifted(Load(1, 0)).corners(),
            decide(row, Load(2, 0))[1].numbers, decide(row, Load(1, 1))[0],
        )
        rows = (2, 0, 1, 3), (0, 2, 1, 3), (-1, 0, -3, -2)
        self.assertEqual(found, (rows, ((2, 2),), 2, True, ((1, 2),), (0, 1, 2, 3), "cut"))

    def test_hand_and_words(self):
        hand = Hand(2)
        given = [hand(5), hand(1), hand(4), hand.held]
        found = (
            given, list(hand.rest()), hand.held, compare_words(3, (Forward(2),), (Forward(1), Backward(1))),
            compare_words(4, (Forward(1),), (Backward(1),))[0],
        )
        self.assertEqual(found, ([None, None, 1, (4, 5)], [4, 5], (), ("alike", "all"), "row"))

    def test_sources_and_loads(self):
        source = check_source(Row(0, 1, 0, 1), Load(1, 1), ("source", Row(1, 1, 0, 0)))
        none = check_source(Row(1, 0, 1), Load(0, 1), ("bound", 1))
        load = load_of((Forward(2), Forward(3))) + 2 * Load(1, 4)
        found = source, none, load.forward, load.backward, bool(Load(0, 0)), -load == Load(8, 7)
        self.assertEqual(found, (True, True, 7, 8, False, True))

    def test_borders(self):
        stairs = Staircase.of_corners(((1, 3), (2, 1)))
        order = order_for(4, stairs)
        found = (
            Staircase.of_row(order) == stairs, profile(4, stairs), count_stairs(4), rank_of(4, stairs),
            profile(4, stairs_by_rank(4, 13)),
        )
        self.assertEqual(found, (True, (3, 1, 0, 0), 14, 10, (3, 2, 1, 0)))


if __name__ == "__main__":
    unittest.main()
