"""Module handsweeps.hands: point [11]."""

import unittest

from handsweeps.errors import InvalidSize, SweepError
from handsweeps.hands import Hand
from tests.samples import answers_of_hand, mixed_rows, small_rows, wrong_sizes


class TakingNumbers(unittest.TestCase):

    def check(self, numbers, size, small):
        answers, at_end = answers_of_hand(numbers, size, small)
        hand = Hand(size, small=small)
        given = []
        for number, answer in zip(numbers, answers):
            given.append(number)
            self.assertEqual(hand(number), answer)
            laid = [number for number in answers[:len(given)] if number is not None]
            self.assertEqual(sorted(list(hand.held) + laid), sorted(given))
        self.assertEqual(hand.held, tuple(sorted(at_end)))
        self.assertEqual(list(hand.rest()), at_end)
        self.assertEqual(hand.held, ())

    def test_all_small_rows(self):
        for numbers in small_rows(5):
            for size in range(1, 7):
                for small in (False, True):
                    self.check(numbers, size, small)

    def test_all_sizes(self):
        for size in range(1, 21):
            for numbers in mixed_rows(40):
                for small in (False, True):
                    self.check(numbers * 2, size, small)
                    self.check(numbers[:size - 1], size, small)
                    self.check(numbers[:size], size, small)

    def test_what_a_call_returns(self):
        hand = Hand(2)
        self.assertEqual([hand(5), hand(1), hand(4), hand.held], [None, None, 1, (4, 5)])
        self.assertEqual([hand(0), hand(4), hand(9)], [0, 4, 4])
        small = Hand(2, small=True)
        self.assertEqual([small(5), small(1), small(4), small.held], [None, None, 5, (1, 4)])
        self.assertEqual([small(9), small(4), small(0)], [9, 4, 4])
        self.assertEqual(small.held, (0, 1))

    def test_zero_is_laid_down_as_a_number(self):
        hand = Hand(1)
        self.assertIsNone(hand(0))
        self.assertEqual([hand(7), type(hand(-3))], [0, int])

    def test_any_integer(self):
        great = 10 ** 999
        hand = Hand(1)
        self.assertEqual([hand(great), hand(-great), hand(great + 1)], [None, -great, great])
        self.assertEqual(hand.held, (great + 1,))


class Held(unittest.TestCase):

    def test_an_ascending_tuple(self):
        for small in (False, True):
            hand = Hand(4, small=small)
            self.assertEqual(hand.held, ())
            for number in (3, -2, 3, 0):
                hand(number)
            self.assertIs(type(hand.held), tuple)
            self.assertEqual(hand.held, (-2, 0, 3, 3))

    def test_reading_changes_nothing(self):
        hand = Hand(2)
        hand(2)
        before = hand.held
        hand(1)
        self.assertEqual([before, hand.held, hand.held], [(2,), (1, 2), (1, 2)])


class Rest(unittest.TestCase):

    def filled(self, small):
        hand = Hand(3, small=small)
        for number in (5, 1, 4):
            hand(number)
        return hand

    def test_whole(self):
        for small, numbers in ((False, [1, 4, 5]), (True, [5, 4, 1])):
            hand = self.filled(small)
            self.assertEqual(list(hand.rest()), numbers)
            self.assertEqual(hand.held, ())
            self.assertEqual(list(hand.rest()), [])

    def test_a_number_is_no_longer_held_when_it_is_yielded(self):
        for small, helds in ((False, [(4, 5), (5,), ()]), (True, [(1, 4), (1,), ()])):
            hand = self.filled(small)
            self.assertEqual([hand.held for _ in hand.rest()], helds)

    def test_nothing_is_laid_down_before_the_first_number_is_asked_for(self):
        hand = self.filled(False)
        left = hand.rest()
        self.assertEqual(hand.held, (1, 4, 5))
        self.assertEqual(next(left), 1)
        self.assertEqual(hand.held, (4, 5))

    def test_left_before_its_end(self):
        for small, first, held, answers in ((False, 1, (4, 5), [None, 0]), (True, 5, (1, 4), [None, 7])):
            hand = self.filled(small)
            for number in hand.rest():
                self.assertEqual(number, first)
                break
            self.assertEqual(hand.held, held)
            self.assertEqual([hand(7), hand(0)], answers)

    def test_the_hand_is_used_again_behind_it(self):
        hand = self.filled(False)
        self.assertEqual(list(hand.rest()), [1, 4, 5])
        self.assertEqual([hand(2), hand(9), hand(3), hand(4)], [None, None, None, 2])
        self.assertEqual(list(hand.rest()), [3, 4, 9])


class SeveralHands(unittest.TestCase):

    def test_two_hands_at_once(self):
        great, small, other = Hand(1), Hand(1, small=True), Hand(1)
        self.assertEqual([great(1), small(1), great(2), small(2)], [None, None, 1, 2])
        self.assertEqual([great.held, small.held, other.held], [(2,), (1,), ()])
        self.assertEqual([list(great.rest()), small.held], [[2], (1,)])

    def test_a_hand_is_equal_to_itself_only(self):
        hand, other = Hand(1), Hand(1)
        self.assertTrue(hand == hand)
        self.assertFalse(hand != hand)
        self.assertFalse(hand == other)
        self.assertTrue(hand != other)
        self.assertFalse(hand == 1)


class Creating(unittest.TestCase):

    def test_most(self):
        self.assertEqual([Hand.MOST, Hand(1).MOST], [20, 20])

    def test_sizes_of_every_kind(self):
        for size in range(1, 21):
            self.assertEqual(Hand(size).held, ())
        for value in wrong_sizes():
            for small in (False, True):
                with self.subTest(value=value, small=small):
                    with self.assertRaises(InvalidSize) as caught:
                        Hand(value, small=small)
                    self.assertIs(caught.exception.value, value)
                    self.assertIsInstance(caught.exception, SweepError)

    def test_parameters_by_name(self):
        hand = Hand(small=True, size=1)
        self.assertEqual([hand(number=1), hand(number=2)], [None, 2])

    def test_small_by_name_alone(self):
        self.assertRaises(TypeError, Hand, 1, True)
        self.assertRaises(TypeError, Hand)

    def test_operators_with_other_values(self):
        hand = Hand(1)
        self.assertRaises(TypeError, lambda: hand + hand)
        self.assertRaises(TypeError, lambda: hand >> 1)
        self.assertRaises(TypeError, lambda: hand < hand)
        self.assertRaises(TypeError, lambda: -hand)


if __name__ == "__main__":
    unittest.main()
