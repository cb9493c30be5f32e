"""The parts of the examples of DOC.md that use errors, hands, sweeps and rows alone."""

import unittest

from handsweeps.hands import Hand
from handsweeps.rows import Row
from handsweeps.sweeps import Forward


class Examples(unittest.TestCase):

    def test_row_after_a_sweep_and_mirrored(self):
        row = Row(2, 3, 0, 1)
        self.assertEqual(((row >> Forward(1)).numbers, (-row).numbers), ((2, 0, 1, 3), (-1, 0, -3, -2)))

    def test_hand(self):
        hand = Hand(2)
        given = [hand(5), hand(1), hand(4), hand.held]
        self.assertEqual((given, list(hand.rest()), hand.held), ([None, None, 1, (4, 5)], [4, 5], ()))


if __name__ == "__main__":
    unittest.main()
