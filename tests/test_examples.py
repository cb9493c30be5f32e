"""The examples of DOC.md, as far as their modules are there."""

import unittest

from handsweeps.decisions import check_source, decide
from handsweeps.hands import Hand
from handsweeps.loads import Load
from handsweeps.rows import Row
from handsweeps.sweeps import Forward
from handsweeps.words import load_of


class Examples(unittest.TestCase):

    def test_row_after_a_sweep_and_a_load_and_mirrored(self):
        row = Row(2, 3, 0, 1)
        after = (row >> Forward(1)).numbers, (row >> Load(1, 1)).numbers, (-row).numbers
        self.assertEqual(after, ((2, 0, 1, 3), (0, 2, 1, 3), (-1, 0, -3, -2)))
        decided = decide(row, Load(2, 0))[1].numbers, decide(row, Load(1, 1))[0]
        self.assertEqual(decided, ((0, 1, 2, 3), "cut"))

    def test_hand(self):
        hand = Hand(2)
        given = [hand(5), hand(1), hand(4), hand.held]
        self.assertEqual((given, list(hand.rest()), hand.held), ([None, None, 1, (4, 5)], [4, 5], ()))

    def test_sources_and_loads(self):
        source = check_source(Row(0, 1, 0, 1), Load(1, 1), ("source", Row(1, 1, 0, 0)))
        none = check_source(Row(1, 0, 1), Load(0, 1), ("bound", 1))
        load = load_of((Forward(2), Forward(3))) + 2 * Load(1, 4)
        found = source, none, load.forward, load.backward, bool(Load(0, 0)), -load == Load(8, 7)
        self.assertEqual(found, (True, True, 7, 8, False, True))


if __name__ == "__main__":
    unittest.main()
